"""The border of sites that are known to be valid and stand in ascending order."""

from nearcells.plane import is_on_way, turn, turn_to_place
from nearcells.wholes import sign


def is_row(rows):
    """Whether all sites are in a row; one or two always are."""
    return all([turn(rows[0], rows[-1], site) == 0 for site in rows])


def chain_of(rows, least):
    """The way along the border from the first site to the last one, all others on its left.

    No turn is less than least: with 0 sites between two others stay, with 1 they go.
    """
    chain = []
    for site in rows:
        while len(chain) > 1 and turn(chain[-2], chain[-1], site) < least:
            chain.pop()
        chain.append(site)
    return chain


def border_of(rows):
    """All sites on the border of the hull, turning left from the least one."""
    if is_row(rows):
        return list(rows)
    return chain_of(rows, 0)[:-1] + chain_of(rows[::-1], 0)[:-1]


def corners_of(rows):
    """The corners of the hull, turning left from the least one."""
    if len(rows) == 1:
        return list(rows)
    return chain_of(rows, 1)[:-1] + chain_of(rows[::-1], 1)[:-1]


def sides_of(rows):
    """The tuples (a, b) of a site on the border and the next one, turning left.

    For sites in a row they go from each one to the next one, and back again.
    """
    border = border_of(rows)
    if len(border) > 2 and not is_row(rows):
        return list(zip(border, border[1:] + border[:1]))
    return list(zip(border, border[1:])) + list(zip(border[::-1], border[::-1][1:]))


def double_area_of(corners):
    """The double area of a polygon whose corners are sites, turning left."""
    first = corners[0]
    return sum([turn(first, a, b) for a, b in zip(corners, corners[1:])])


def side_of_hull(rows, place):
    """1, 0 or -1 for a place inside of, on the border of, or outside of the hull."""
    if is_row(rows):
        return 0 if is_on_way(rows[0], rows[-1], place) else -1
    return side_of_polygon(corners_of(rows), place)


def side_of_polygon(corners, place):
    """1, 0 or -1 for a place inside of, on the border of, or outside of a convex polygon."""
    turns = [turn_to_place(a, b, place) for a, b in zip(corners, corners[1:] + corners[:1])]
    return sign(min(turns))
