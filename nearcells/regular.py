"""Which triangulations come of weights, and papers against the others."""

from math import gcd

from nearcells.checks import ascending, check_limit, is_pair
from nearcells.mesh import inner_edges
from nearcells.plane import turn
from nearcells.simplex import balance
from nearcells.triangles import triangulation
from nearcells.wholes import is_integer

MOST_TOLD = 8
MOST_LOOKED_AT = 30


def regular(sites, triangles):
    """Weights for which a triangulation is what the cells make, or a paper that there are none."""
    rows = ascending(sites)
    mesh = triangulation(rows, triangles)
    check_limit(rows, MOST_TOLD)
    edges = sorted(inner_edges(mesh))
    if len(edges) == 0:
        return ("weights", [0 for _ in rows])
    folds = [fold(mesh, a, b) for a, b in edges]
    # A plane may be taken away: so the three heights of a triangle are 0.
    (a, b), c = edges[0], mesh[edges[0]]
    free = [site for site in rows if site not in (a, b, c)]
    word, numbers = balance([[one.get(site, 0) for site in free] for one in folds])
    if word == "amounts":
        amounts = lowest(numbers)
        return ("paper", [(edge, many) for edge, many in zip(edges, amounts) if many > 0])
    heights = rounded(folds, free, numbers)
    return ("weights", [x * x + y * y - heights.get((x, y), 0) for x, y in rows])


def rounded(folds, free, numbers):
    """Heights of the free sites that are little, in about the same proportion as some numbers.

    With the numbers all folds are above 0, and so they are with what is told.
    """
    most = max([abs(number) for number in numbers])
    scale = 1
    while scale < most:
        heights = {site: (2 * number * scale + most) // (2 * most) for site, number in zip(free, numbers)}
        if all([fold_for(one, heights) > 0 for one in folds]):
            return heights
        scale = 2 * scale
    return {site: number for site, number in zip(free, numbers)}


def lowest(numbers):
    """Integers without a common divisor."""
    common = 0
    for number in numbers:
        common = gcd(common, number)
    return [number // common if common > 1 else number for number in numbers]


def fold(mesh, a, b):
    """The fold of an edge between two triangles: for each site what its height counts."""
    c, d = mesh[(a, b)], mesh[(b, a)]
    return {d: turn(a, b, c), c: turn(b, a, d), a: -turn(b, c, d), b: -turn(c, a, d)}


def fold_for(one, heights):
    """What a fold is for heights of the sites, 0 where none is told."""
    return sum([many * heights.get(site, 0) for site, many in one.items()])


def is_weights(sites, triangles, weights):
    """Whether a value is a list of weights for which a triangulation is what the cells make."""
    rows = ascending(sites)
    mesh = triangulation(rows, triangles)
    check_limit(rows, MOST_LOOKED_AT)
    if not isinstance(weights, list) or len(weights) != len(rows):
        return False
    if not all([is_integer(weight) for weight in weights]):
        return False
    heights = {(x, y): x * x + y * y - weight for (x, y), weight in zip(rows, weights)}
    if len(mesh) == 0:
        return all([is_below(a, b, c, heights) for a, b, c in zip(rows, rows[1:], rows[2:])])
    return all([fold_for(fold(mesh, a, b), heights) > 0 for a, b in inner_edges(mesh)])


def is_below(a, b, c, heights):
    """Whether the middle one of three sites in a row is below the stretch between the others."""
    before = (b[0] - a[0]) ** 2 + (b[1] - a[1]) ** 2
    across = (b[0] - a[0]) * (c[0] - a[0]) + (b[1] - a[1]) * (c[1] - a[1])
    return (heights[b] - heights[a]) * across < (heights[c] - heights[a]) * before


def is_paper(sites, triangles, paper):
    """Whether a value is a paper that no weights make a triangulation what the cells make."""
    rows = ascending(sites)
    mesh = triangulation(rows, triangles)
    check_limit(rows, MOST_LOOKED_AT)
    if not isinstance(paper, list) or len(paper) == 0:
        return False
    if not all([is_amount(item, rows, mesh) for item in paper]):
        return False
    edges = [edge for edge, _ in paper]
    if not all([one < other for one, other in zip(edges, edges[1:])]):
        return False
    sums = {}
    for (a, b), amount in paper:
        for site, many in fold(mesh, a, b).items():
            sums[site] = sums.get(site, 0) + amount * many
    return all([one == 0 for one in sums.values()])


def is_amount(item, rows, mesh):
    """Whether a value is a tuple of an edge between two triangles, and an integer from 1 on."""
    if not isinstance(item, tuple) or len(item) != 2:
        return False
    edge, amount = item
    if not is_pair(edge, rows) or edge not in mesh or (edge[1], edge[0]) not in mesh:
        return False
    return is_integer(amount) and amount >= 1
