"""Hulls of sites, the layers below them, and what is seen from where."""

from nearcells.checks import ascending, check_direction, check_member, check_place, check_site
from nearcells.outline import border_of, corners_of, double_area_of, side_of_hull, sides_of


def hull(sites):
    """The corners of the hull, turning left from the least one; the ends of a row."""
    return corners_of(ascending(sites))


def border(sites):
    """All sites on the border of the hull, turning left from the least one."""
    return border_of(ascending(sites))


def double_hull(sites):
    """Two times the area of the hull."""
    return double_area_of(corners_of(ascending(sites)))


def layers(sites):
    """The borders that come one below the other if each one is taken away."""
    rows = ascending(sites)
    told = []
    while len(rows) > 0:
        layer = border_of(rows)
        gone = {site: True for site in layer}
        rows = [site for site in rows if site not in gone]
        told.append(layer)
    return told


def layer_of(sites, site):
    """The number of the layer of a site, from 0."""
    told = layers(sites)
    check_member(site, sites, "site")
    return [site in layer for layer in told].index(True)


def where(sites, place):
    """1, 0 or -1 for a place inside of, on the border of, or outside of the hull."""
    rows = ascending(sites)
    check_place(place, "place")
    return side_of_hull(rows, place)


def seen_sides(sites, site):
    """The sides of the border that a site sees from outside, in their order."""
    rows = ascending(sites)
    check_site(site, "site")
    x, y = site
    sides = sides_of(rows)
    seen = [(bx - ax) * (y - ay) < (by - ay) * (x - ax) for (ax, ay), (bx, by) in sides]
    told = [side for side, is_seen in zip(sides, seen) if is_seen]
    if not told or not seen[0] or not seen[-1]:
        return told
    # What is seen stands together, and goes on beyond the end of the list.
    return sides[len(sides) - seen[::-1].index(False):] + sides[:seen.index(False)]


def extreme(sites, direction):
    """The sites that are farthest in a direction, ascending."""
    rows = ascending(sites)
    check_direction(direction, "direction")
    u, v = direction
    far = max([u * x + v * y for x, y in rows])
    return [(x, y) for x, y in rows if u * x + v * y == far]
