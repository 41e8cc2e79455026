"""Sets of sites of a shape, and how many sites, edges, faces and triangles they have."""

from nearcells.checks import MOST_SITES
from nearcells.errors import InvalidBound, LimitExceeded
from nearcells.subdivision import Subdivision
from nearcells.wholes import is_integer

LARGEST = 1000000


def check_number(value, least, name):
    """Raise InvalidBound with the name of the argument for what is no integer from least on."""
    if not is_integer(value) or value < least:
        raise InvalidBound(name)


def check_size(value, least, name):
    """Raise InvalidBound for what is no integer from least to the largest size."""
    check_number(value, least, name)
    if value > LARGEST:
        raise InvalidBound(name)


def check_ends(low, high):
    """Raise InvalidBound for what are no integers within the bounds, low at most high."""
    check_size(low, -LARGEST, "low")
    check_size(high, -LARGEST, "high")
    if low > high:
        raise InvalidBound("high")


def check_limits(many, farthest):
    """Raise LimitExceeded for too many sites, and then for one that is too far away."""
    if many > MOST_SITES:
        raise LimitExceeded(MOST_SITES)
    if farthest > LARGEST:
        raise LimitExceeded(LARGEST)


def counts(sites):
    """The numbers of sites, edges, faces and triangles."""
    sub = Subdivision(sites)
    return (len(sites), len(sub.edges()), len(sub.faces()), len(sub.triangles()))


def counts_of(many, faces, triangles):
    """What counts tells, for sites that have triangles."""
    return (many, many + faces - 1, faces, triangles)


def row_counts(many):
    """What counts tells, for sites in a row."""
    return (many, many - 1, 0, 0)


def grid(m, n):
    """The sites (x, y) with x from 0 to m - 1 and y from 0 to n - 1, ascending."""
    check_size(m, 1, "m")
    check_size(n, 1, "n")
    check_limits(m * n, max(m, n) - 1)
    return [(x, y) for x in range(m) for y in range(n)]


def grid_counts(m, n):
    """What counts tells of a grid."""
    check_size(m, 1, "m")
    check_size(n, 1, "n")
    if m == 1 or n == 1:
        return row_counts(m * n)
    squares = (m - 1) * (n - 1)
    return counts_of(m * n, squares, 2 * squares)


def check_two_rows(m, n, shift):
    """Raise InvalidBound for the first wrong argument of two rows, but for their height."""
    check_size(m, 1, "m")
    check_size(n, 1, "n")
    check_size(shift, -LARGEST, "shift")


def two_rows(m, n, shift, height):
    """The sites (x, 0), x from 0 to m - 1, and (shift + x, height), x from 0 to n - 1, ascending."""
    check_two_rows(m, n, shift)
    check_number(height, 1, "height")
    check_limits(m + n, max(m - 1, shift + n - 1, height))
    return sorted([(x, 0) for x in range(m)] + [(shift + x, height) for x in range(n)])


def two_rows_counts(m, n, shift):
    """What counts tells of two rows, whatever their height."""
    check_two_rows(m, n, shift)
    if m + n == 2:
        return row_counts(2)
    # Each unit stretch above another one makes two triangles one face.
    above = max(0, min(m - 1, shift + n - 1) - max(0, shift))
    return counts_of(m + n, m + n - 2 - above, m + n - 2)


def parabola(low, high):
    """The sites (x, x * x), x from low to high."""
    check_ends(low, high)
    check_limits(high - low + 1, max(low * low, high * high))
    return [(x, x * x) for x in range(low, high + 1)]


def parabola_counts(low, high):
    """What counts tells of a parabola."""
    check_ends(low, high)
    many = high - low + 1
    if many < 3:
        return row_counts(many)
    # -t, t, t + 1 and -t - 1 make two triangles one face.
    level = max(0, min(-low, high) - 1)
    return counts_of(many, many - 2 - level, many - 2)


def zigzag(m, n, height):
    """The sites (2 * i + r, height * j), r the rest of j by 2, ascending."""
    check_size(m, 2, "m")
    check_size(n, 2, "n")
    check_number(height, 2, "height")
    check_limits(m * n, max(2 * m - 1, height * (n - 1)))
    return sorted([(2 * i + (j & 1), height * j) for i in range(m) for j in range(n)])


def zigzag_counts(m, n):
    """What counts tells of a zigzag, whatever its height."""
    check_size(m, 2, "m")
    check_size(n, 2, "n")
    triangles = 2 * m * n - 2 * m - n
    return counts_of(m * n, triangles, triangles)
