"""Slow and plain ways to tell what the program tells, with Python's fractions."""

import random
from fractions import Fraction
from math import lcm

FAR = 10 ** 6


def pair(number):
    """A number as a tuple (numerator, denominator)."""
    return (Fraction(number).numerator, Fraction(number).denominator)


def place_of(x, y):
    """The place of two numbers."""
    x, y = Fraction(x), Fraction(y)
    d = lcm(x.denominator, y.denominator)
    return (int(x * d), int(y * d), d)


def compare(one, other):
    return (one > other) - (one < other)


def distance(x, y, site):
    """The squared distance of a point and a site."""
    return (Fraction(x) - site[0]) ** 2 + (Fraction(y) - site[1]) ** 2


def centre(a, b, c):
    """The centre of a circle by Cramer's rule, None for sites in a row.

    It is the point p with 2 * (s - a) * p = s * s - a * a for s in b, c.
    """
    rows = []
    for s in (b, c):
        lift = s[0] ** 2 + s[1] ** 2 - a[0] ** 2 - a[1] ** 2
        rows.append((2 * (s[0] - a[0]), 2 * (s[1] - a[1]), lift))
    (p, q, r), (s, t, u) = rows
    det = p * t - q * s
    if det == 0:
        return None
    return (Fraction(r * t - q * u, det), Fraction(p * u - r * s, det))


def circle(a, b, c):
    """The circle through three sites, None for sites in a row."""
    point = centre(a, b, c)
    if point is None:
        return None
    return (place_of(*point), pair(distance(*point, a)))


def in_circle(a, b, c, d):
    """By distances from the centre."""
    x, y = centre(a, b, c)
    return compare(distance(x, y, a), distance(x, y, d))


def lift_side(a, b, c, d):
    """By the height at d of the plane z = 2 * x * X + 2 * y * Y + r through the lifts."""
    x, y = centre(a, b, c)
    r = a[0] ** 2 + a[1] ** 2 - 2 * x * a[0] - 2 * y * a[1]
    return compare(d[0] ** 2 + d[1] ** 2, 2 * x * d[0] + 2 * y * d[1] + r)


def side(a, b, c):
    """By the scalar product with the vector that leads to the left of the way."""
    u, v = b[0] - a[0], b[1] - a[1]
    return compare(-v * (c[0] - a[0]) + u * (c[1] - a[1]), 0)


def is_between(a, b, c):
    """By the share of the way from a to b that leads to c."""
    if a == b:
        return c == a
    axis = 0 if a[0] != b[0] else 1
    share = Fraction(c[axis] - a[axis], b[axis] - a[axis])
    here = (a[0] + share * (b[0] - a[0]), a[1] + share * (b[1] - a[1]))
    return 0 <= share <= 1 and here == tuple(c)


def groups(size, count, seed=1):
    """Groups of sites: near ones, often alike or in a row, and far ones."""
    chance = random.Random(seed)
    for _ in range(count):
        reach = chance.choice((1, 2, 3, 5, 30, FAR))
        yield [(chance.randint(-reach, reach), chance.randint(-reach, reach)) for _ in range(size)]


def places(count, seed=2):
    """Places with small and large numbers."""
    chance = random.Random(seed)
    for _ in range(count):
        reach = chance.choice((2, 5, FAR, 10 ** 12))
        over = chance.choice((1, 2, 3, 4, 9, 10))
        yield place_of(Fraction(chance.randint(-reach, reach), over),
                       Fraction(chance.randint(-reach, reach), over))
