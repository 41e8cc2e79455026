"""The border of sites that are known to be valid and stand in ascending order."""

from nearcells.plane import is_on_way, turn, turn_to_place
from nearcells.wholes import sign


def is_row(rows):
    """Whether all sites are in a row; one or two always are."""
    return all([turn(rows[0], rows[-1], site) == 0 for site in rows])


def chains_of(rows, least):
    """Both ways along the border from the first site to the last one: the lower, and the upper one.

    The lower one has all other sites on its left, the upper one on its right. No turn to this
    side is less than least: with 0 sites between two others stay, with 1 they go.
    """
    low, high = [], []
    px, py = rows[0]
    ux, uy = rows[-1][0] - px, rows[-1][1] - py
    for site in rows:
        x, y = site
        # Each one lies on this or on that side of the line from the first to the last, or on it.
        area = ux * (y - py) - uy * (x - px)
        if area <= 0:
            while len(low) > 1:
                ax, ay = low[-2]
                bx, by = low[-1]
                if (bx - ax) * (y - ay) - (by - ay) * (x - ax) >= least:
                    break
                low.pop()
            low.append(site)
        if area >= 0:
            while len(high) > 1:
                ax, ay = high[-2]
                bx, by = high[-1]
                if (by - ay) * (x - ax) - (bx - ax) * (y - ay) >= least:
                    break
                high.pop()
            high.append(site)
    return (low, high)


def border_of(rows):
    """All sites on the border of the hull, turning left from the least one."""
    low, high = chains_of(rows, 0)
    # None but the ends are on both ways, unless all sites are in a row.
    if len(low) == len(high) == len(rows):
        return low
    return low + high[-2:0:-1]


def corners_of(rows):
    """The corners of the hull, turning left from the least one."""
    low, high = chains_of(rows, 1)
    return low + high[-2:0:-1]


def sides_of(rows):
    """The tuples (a, b) of a site on the border and the next one, turning left.

    For sites in a row they go from each one to the next one, and back again.
    """
    low, high = chains_of(rows, 0)
    around = low + high[-2::-1]
    return list(zip(around, around[1:]))


def double_area_of(corners):
    """The double area of a polygon whose corners are sites, turning left."""
    first = corners[0]
    return sum([turn(first, a, b) for a, b in zip(corners, corners[1:])])


def side_of_hull(rows, place):
    """1, 0 or -1 for a place inside of, on the border of, or outside of the hull."""
    if is_row(rows):
        return 0 if is_on_way(rows[0], rows[-1], place) else -1
    return side_of_polygon(corners_of(rows), place)


def side_of_polygon(corners, place):
    """1, 0 or -1 for a place inside of, on the border of, or outside of a convex polygon."""
    turns = [turn_to_place(a, b, place) for a, b in zip(corners, corners[1:] + corners[:1])]
    return sign(min(turns))
