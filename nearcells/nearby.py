"""The sites that are nearest to a place, and along a way, for sites that are known to be valid."""

from nearcells.plane import spread_square


def site_at(rows, place):
    """The site that is at a place, or None."""
    for site in rows:
        if (site[0], site[1], 1) == place:
            return site
    return None


def nearest_rows(rows, place):
    """The sites that are nearest to a place, in the order in which they are passed."""
    squares = [spread_square(place, site) for site in rows]
    least = min(squares)
    return [site for site, square in zip(rows, squares) if square == least]


def spans_along(rows, a, b):
    """The parts of the way from place a to place b that have the same nearest sites.

    Returns a list of tuples (top, bottom, sites), sites in the order in which they
    are passed: the part begins behind the share top / bottom of the way. Parts
    without a length are left out.
    """
    lines = lines_along(rows, a, b)
    line = min(lines)
    spans = [(0, 1, lines[line])]
    while True:
        top, bottom, line = next_line(lines, line)
        if top >= bottom:
            return spans
        spans.append((top, bottom, lines[line]))


def lines_along(rows, a, b):
    """For each way in which a distance changes along a way, the sites with this distance.

    The distance is a number at the begin and what is added to it until the end:
    the squared one, less what it has in common for all sites, times a number.
    """
    ax, ay, ad = a
    bx, by, bd = b
    lines = {}
    for site in rows:
        x, y = site
        begin = ad * bd * (x * x + y * y) - 2 * bd * (ax * x + ay * y)
        more = 2 * bd * (ax * x + ay * y) - 2 * ad * (bx * x + by * y)
        lines.setdefault((begin, more), []).append(site)
    return lines


def next_line(lines, line):
    """Where on the way another line comes below this one, and the line that does so first.

    Of several at one point it is the lowest one behind it. The share is told as
    top and bottom; it is 1 if there is none.
    """
    top, bottom, least = 1, 1, line
    for other in lines:
        # Only what falls faster can come below.
        if other[1] < line[1]:
            rise, fall = other[0] - line[0], line[1] - other[1]
            room = rise * bottom - top * fall
            if room < 0 or (room == 0 and other[1] < least[1]):
                top, bottom, least = rise, fall, other
    return (top, bottom, least)
