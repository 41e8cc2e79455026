"""Sets of sites to try things on: small and large, near and far, in rows, on circles."""

import random
from itertools import combinations

FAR = 10 ** 6
RING = [(5, 0), (4, 3), (3, 4), (0, 5), (-3, 4), (-4, 3), (-5, 0), (-4, -3), (-3, -4), (0, -5),
        (3, -4), (4, -3)]
WIDE = [(65 * x, 65 * y) for x, y in RING]
ROWS = [
    [(3, 0), (0, 0), (1, 0)], [(0, 7), (0, -1), (0, 0), (0, 2)], [(4, 2), (0, 0), (2, 1), (-6, -3)],
    [(3, -3), (0, 0), (1, -1), (2, -2)], [(-FAR, -FAR), (FAR, FAR), (0, 0)],
    [(-FAR, 5), (FAR, 5), (FAR - 1, 5)],
]
SPECIAL = [
    [(0, 0)], [(FAR, -FAR)], [(0, 0), (4, 0)], [(1, 5), (1, 2)], [(-FAR, FAR), (FAR, -FAR)],
    [(0, 0), (4, 0), (1, 3)], [(0, 0), (1, 0), (2, 0), (0, 2), (1, 1)],
    [(0, 0), (2, 0), (0, 2), (2, 2)], [(0, 0), (2, 0), (0, 2), (2, 2), (1, 1)],
    [(2, 2), (0, 0), (2, 0), (0, 2), (5, 1)], [(0, 0), (4, 0), (2, 1), (2, -1)],
    [(-1, -1), (-1, 1), (1, -1), (1, 1), (-2, -2), (-2, 2), (2, -2), (2, 2)],
    [(x, 0) for x in range(6)] + [(2, 3)], [(0, y) for y in range(6)] + [(-1, 9)],
    [(x, 2 * x) for x in range(5)] + [(9, 0)], [(x, 0) for x in range(5)] + [(8, 1)],
    [(x, y) for x in range(4) for y in (0, 3)], [(2 * x + y, y) for x in range(4) for y in (0, 1)],
    RING, RING[:7], RING[1::2] + [(0, 0)], WIDE[::2] + [(1, 0)], [(5, 0), (-3, 4), (0, -5), (1, 1)],
    [(-FAR, -FAR), (FAR, -FAR), (-FAR, FAR), (FAR, FAR)],
    [(-FAR, -FAR), (FAR, -FAR), (-FAR, FAR), (FAR, FAR), (0, 0), (1, 0), (0, 1)],
    [(-FAR, -FAR), (0, 0), (FAR, FAR - 1)], [(-FAR, -FAR), (0, 0), (FAR - 1, FAR), (1, 1)],
    [(0, 0), (10, 0), (5, 1), (5, -1), (5, 9)], [(0, 0), (9, 0), (1, 1), (2, 5), (4, 2)],
    [(x, x * x) for x in range(-4, 5)],
]


def grid(m, n):
    return [(x, y) for x in range(m) for y in range(n)]


def anywhere(many, reach, chance):
    """Some unlike sites, at most as far from (0, 0) as told."""
    found = {}
    while len(found) < min(many, (2 * reach + 1) ** 2):
        found[(chance.randint(-reach, reach), chance.randint(-reach, reach))] = True
    return list(found)


def small(count=150, most=8, seed=3):
    """The special sets, and as many others of at most so many sites, in no order."""
    chance = random.Random(seed)
    told = [list(sites) for sites in ROWS + SPECIAL if len(sites) <= max(most, 8)]
    for _ in range(count):
        many = chance.randint(1, most)
        kind = chance.randrange(6)
        if kind == 0:
            told.append(chance.sample(grid(3, 3), many))
        elif kind == 1:
            told.append(chance.sample(RING + [(0, 0), (1, 2), (9, 1)], many))
        elif kind == 2:
            u, v = chance.choice(((1, 0), (0, 2), (3, 1), (-2, 3)))
            told.append([(u * k, v * k) for k in chance.sample(range(-6, 7), many)])
            told[-1] += [(7, 8)] * chance.randrange(2)
        elif kind == 3:
            told.append(chance.sample([(x, y) for x in range(6) for y in (0, 2)], many))
        else:
            told.append(anywhere(many, chance.choice((1, 2, 3, 5, 30, FAR)), chance))
        chance.shuffle(told[-1])
    return told


def middling(seed=5):
    """Sets of some more sites."""
    chance = random.Random(seed)
    return [list(RING), WIDE + [(0, 0), (7, 1), (1, 7)], grid(4, 4), grid(2, 9),
            anywhere(16, 3, chance), anywhere(16, 9, chance), anywhere(16, FAR, chance),
            [(x, 3 * x) for x in range(-6, 7)] + [(1, 0)], [(x, x * x) for x in range(-7, 8)],
            [(2 * x + y % 2, 2 * y) for x in range(4) for y in range(4)],
            [(s * k, t * k) for k in (1, 2, 4) for s in (-1, 1) for t in (-1, 1)] + [(0, 0)]]


def large(seed=7):
    """Sets of 200 sites, or hardly fewer."""
    chance = random.Random(seed)
    return [anywhere(200, FAR, chance), anywhere(200, 9, chance), grid(14, 14), grid(2, 100),
            [(x, x * x) for x in range(-100, 100)], [(3 * x, 2 * x) for x in range(200)],
            [(x, 0) for x in range(199)] + [(70, 50)], far_ring()[:200]]


def far_ring():
    """Sites on one circle."""
    reach = 5 * 13 * 17 * 29 * 5
    found = []
    for x in range(0, reach + 1, 5):
        y = int((reach * reach - x * x) ** 0.5)
        if x * x + y * y == reach * reach:
            found.extend({(x, y), (-x, y), (x, -y), (-x, -y), (y, x), (-y, x), (y, -x), (-y, -x)})
    return sorted(set(found))


def subsets(sites, many):
    """All sets of so many of the sites."""
    return [list(chosen) for chosen in combinations(sites, many)]
