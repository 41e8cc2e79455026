"""Slow and plain ways to tell the cells of weighted sites."""

from fractions import Fraction
from itertools import combinations

from tests import exact, slow, slow_cells


def power(x, y, site):
    return exact.distance(x, y, site[:2]) - site[2]


def cell(sites, site):
    """The corners of the part of a cell in a vast box, with points that come twice left out."""
    polygon = slow_cells.box_corners(*[k * slow_cells.VAST for k in (-1, -1, 1, 1)])
    a, b, v = site
    for x, y, w in sites:
        if (x, y, w) != site:
            # The power of the other one is not less: linear in the point.
            bound = x * x + y * y - w - a * a - b * b + v
            polygon = slow_cells.clip(polygon, 2 * (x - a), 2 * (y - b), bound)
    return [p for at, p in enumerate(polygon) if p not in polygon[:at]]


def kind(sites, site):
    found = cell(sites, site)
    if not found:
        return "hidden"
    return "seen" if slow_cells.area(found) else "touching"


def seen(sites):
    return sorted(site for site in sites if kind(sites, site) == "seen")


def edges(sites):
    """The pairs of spots whose cells share two points."""
    told = []
    for a, b in combinations(seen(sites), 2):
        if sum(power(*p, a) == power(*p, b) for p in cell(sites, a)) > 1:
            told.append((a[:2], b[:2]))
    return sorted(told)


def near(sites, x, y):
    powers = {site: power(x, y, site) for site in sites}
    return sorted(site for site in sites if powers[site] == min(powers.values()))


def centres(sites):
    """The points with one power for three sites that are not in a row."""
    found = set()
    for a, b, c in combinations(sites, 3):
        p, q, r = (b[0] - a[0], b[1] - a[1], rise(a, b))
        s, t, u = (c[0] - a[0], c[1] - a[1], rise(a, c))
        det = 2 * (p * t - q * s)
        if det:
            found.add((Fraction(r * t - q * u, det), Fraction(p * u - r * s, det)))
    return found


def rise(a, b):
    return b[0] ** 2 + b[1] ** 2 - b[2] - a[0] ** 2 - a[1] ** 2 + a[2]


def vertices(sites):
    """The points where three seen ones, not in a row, have the least power, with all that have it."""
    kept = seen(sites)
    told = []
    for x, y in sorted(centres(kept)):
        all_near = near(sites, x, y)
        if not slow.in_row([site[:2] for site in all_near if site in kept]):
            told.append(((x, y), power(x, y, all_near[0]), all_near))
    return told


def corners(sites, all_near):
    """The face of the seen ones at a vertex."""
    kept = [site[:2] for site in all_near if kind(sites, site) == "seen"]
    return slow.border(sorted(kept))


def height(site):
    return site[0] ** 2 + site[1] ** 2 - site[2]


def is_over(some, site):
    """Whether a site's spot is on the stretch, or in the triangle, and not below its heights."""
    spots = [one[:2] for one in some]
    if len(some) == 2:
        (a, b), spot = spots, site[:2]
        if not exact.is_between(a, b, spot):
            return False
        axis = 0 if a[0] != b[0] else 1
        share = Fraction(spot[axis] - a[axis], b[axis] - a[axis])
        return height(site) >= height(some[0]) + share * (height(some[1]) - height(some[0]))
    whole = slow.turn(*spots)
    if whole == 0:
        return False
    parts = [Fraction(slow.turn(*[site[:2] if other == one else other for other in spots]), whole) for one in spots]
    below = sum(part * height(one) for part, one in zip(parts, some))
    return min(parts) >= 0 and height(site) >= below


def cover(sites, site):
    """The least paper of all."""
    kept = seen(sites)
    papers = [some for many in (2, 3) for some in combinations(kept, many) if is_over(some, site)]
    return None if site in kept else min(papers)
