"""The smallest circle around sites that are known to be valid."""

from itertools import combinations

from nearcells.plane import circle_through, place_of, spread_square, turn, turn_to_place
from nearcells.wholes import fraction, is_less


def circle_around(rows):
    """The centre and the squared radius of the smallest circle that has no site outside."""
    held = [rows[0]]
    place, square = (rows[0][0], rows[0][1], 1), (0, 1)
    while True:
        far = farthest_site(rows, place)
        if not is_outside(far, place, square):
            return (place, square)
        # Each circle is larger than the one before it, so this comes to an end.
        place, square, held = least_circle(held, far)


def farthest_site(rows, place):
    """A site that no other one is farther than from a place."""
    return max(rows, key=lambda site: spread_square(place, site))


def is_outside(site, place, square):
    """Whether a site is outside of a circle."""
    return spread_square(place, site) * square[1] > square[0] * place[2] * place[2]


def least_circle(held, far):
    """The smallest circle around up to three sites and a further one, and the sites that hold it."""
    found = []
    for a in held:
        found.append((*circle_between(a, far), [a, far]))
    for a, b in combinations(held, 2):
        if turn(a, b, far) != 0:
            found.append((*circle_through(a, b, far), [a, b, far]))
    least = None
    for place, square, holders in found:
        fits = not any([is_outside(site, place, square) for site in held])
        if fits and (least is None or is_less(square, least[1])):
            least = (place, square, holders)
    return least


def circle_between(a, b):
    """The circle with two sites at the ends of a diameter."""
    x, y = b[0] - a[0], b[1] - a[1]
    return (place_of(a[0] + b[0], a[1] + b[1], 2), fraction(x * x + y * y, 4))


def holds(paper, place):
    """Whether unlike sites on a circle with this centre hold it.

    One does if it is the centre itself, two if they are opposite one another,
    three if they have the centre inside of their triangle.
    """
    x, y, d = place
    if len(paper) == 1:
        return (x, y, d) == (paper[0][0], paper[0][1], 1)
    if len(paper) == 2:
        a, b = paper
        return (d * (a[0] + b[0]), d * (a[1] + b[1])) == (2 * x, 2 * y)
    a, b, c = paper
    turns = [turn_to_place(a, b, place), turn_to_place(b, c, place), turn_to_place(c, a, place)]
    return min(turns) > 0 or max(turns) < 0


def first_paper(on, place):
    """The least pair, or else triple, of ascending sites on a circle that holds it."""
    if len(on) == 1:
        return (on[0],)
    for pair in combinations(on, 2):
        if holds(pair, place):
            return pair
    # The least site is in a triple: the triangles from it fill the polygon of all.
    first, others = on[0], on[1:]
    for b, c in combinations(others, 2):
        if holds((first, b, c), place):
            return (first, b, c)
    return None
