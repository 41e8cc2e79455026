"""Values that are no sites, no places, or neither, to be passed as arguments."""

from nearcells import errors
from nearcells.desks import Desk
from nearcells.subdivision import Subdivision

DEPTH = 2000
FAR = 10 ** 6
LONG = 10 ** 30


def nested_list(depth=DEPTH):
    value = []
    for _ in range(depth):
        value = [value]
    return value


def nested_tuple(depth=DEPTH):
    value = ()
    for _ in range(depth):
        value = (value,)
    return value


def nested_pair(depth=DEPTH):
    value = (0, 0)
    for _ in range(depth):
        value = (value, value)
    return value


def nested_dict(depth=DEPTH):
    value = {}
    for _ in range(depth):
        value = {"a": value}
    return value


def own_list():
    value = []
    value.append(value)
    return value


def error_objects():
    return [
        errors.CellError(),
        errors.InvalidSites(0),
        errors.InvalidTriangles(at=-1),
        errors.InvalidBound("a"),
        errors.InvalidCall(call=("put", (0, 0))),
        errors.NoCircle(),
        errors.LimitExceeded(200),
        ValueError("a"),
    ]


def neither():
    """Objects of many built-in types, none of them a site or a place."""
    return error_objects() + [
        Subdivision([(0, 0), (1, 1)]), Desk(),
        None, True, False, 0, 1, -5, 10 ** 40, 2j, "", "ab", "abc", "00", b"", b"ab", b"abc",
        [], [0, 0], [0, 0, 1], [(0, 0)], {}, {0: 0, 1: 0}, {"a": []}, set(), {0, 1}, {0, 1, 2},
        frozenset((0, 1)), bytearray(b"ab"), memoryview(b"abc"), range(2), range(3), slice(0, 1),
        object(), Ellipsis, NotImplemented, int, tuple, len, neither, iter([0, 0]),
        (number for number in (0, 0)), zip([0], [0]), {}.keys(), "ab".join,
        (), (0,), (0, 0, 0, 1), (None, None), (None, 0, 1), ("0", "0"), ("0", "0", "1"),
        ([], []), ({}, 0, 1), (set(), 0), ((0, 0), (0, 0)), ((0, 0), (0, 0), 1),
        nested_list(), nested_tuple(), nested_pair(), nested_dict(), own_list(),
        (nested_list(), 0), (0, nested_tuple()), (nested_dict(), nested_list()),
        (nested_pair(), nested_pair(), 1), (0, 0, nested_tuple()),
    ]


def no_sites():
    """Values that are no sites, those near to a site among them."""
    return neither() + [
        (0, 0, 1), (True, 0), (False, 0), (0, True), (0, False), (True, True), (None, 0), (0, "0"), (0, b"0"), (0, [0]),
        (FAR + 1, 0), (0, FAR + 1), (-FAR - 1, 0), (0, -FAR - 1), (10 ** 40, 0), (0, -10 ** 900),
        (0, 1j), [FAR, FAR],
    ]


def no_places():
    """Values that are no places, those near to a place among them."""
    return neither() + [
        (0, 0), (0, 0, 0), (1, 1, 0), (1, 0, 0), (0, 0, -1), (1, 1, -1), (-1, -1, -2), (3, 4, -5),
        (2, 2, 2), (0, 0, 2), (4, 6, 2), (-3, 6, 9), (0, 10 ** 20, 10 ** 20),
        (True, 0, 1), (False, 1, 1), (0, True, 1), (0, False, 1), (0, 0, True), (None, 0, 1), (0, "0", 1), (0, 0, "1"),
        (LONG, 1, 1), (1, LONG, 1), (1, 1, LONG), (-LONG, 1, 1), (1, -LONG, 1), (1, 1, -LONG),
        (LONG, 1, 0), (10 ** 900, 0, 1), (0, 0, [1]), (0, 0, 1j),
    ]


def no_members(sites):
    """Values that are none of the sites."""
    return no_sites() + [(x + 1, y) for x, y in sites if (x + 1, y) not in sites] + [(FAR, FAR)]


def no_directions():
    """Values that are no directions."""
    return neither() + [
        (0, 0), (0, 0, 1), (1, 2, 3), [1, 2], (1,), (True, 0), (0, True), (False, 1), (False, False),
        (LONG, 1), (1, LONG), (-LONG, 1), (1, -LONG), (None, 1), (1, "1"), (1, [1]), (1, 1j),
        (nested_list(), 1), (1, nested_tuple()),
    ]


def wrong_sites():
    """Values that are no lists of sites, each with the at that is told."""
    told = [(value, -1) for value in no_sites() + no_places() if not isinstance(value, list)]
    told += [(((0, 0), (1, 1)), -1), ({(0, 0): True}, -1), ({(0, 0)}, -1), ([], 0)]
    for wrong in no_sites():
        told += [([wrong], 0), ([(0, 0), (4, 0), wrong], 2), ([(0, 0), wrong, (4, 0), wrong, (0, 0)], 1)]
    told += [([(0, 0), (0, 0)], 1), ([(0, 0), (1, 0), (0, 1), (1, 0), (0, 0)], 3), ([(0, 0), (0, 0), None], 1)]
    many = [(x, y) for x in range(20) for y in range(15)]
    told += [(many[:201], 200), (many, 200), (many[:200] + [None], 200), (many[:200] + [many[0]], 200)]
    told += [(many[:5] + [(0, 3)] + many[5:], 5), (many[:199] + [[]] + many[199:], 199)]
    told += [(many[:200] + many[:3], 200), ([own_list(), own_list()], 0), ([many], 0)]
    return told


def wrong_triangles(sites, triangles):
    """Values that are no triangulation of sites, each with the at that is told.

    The sites are in general not in a row, and the triangles are a triangulation.
    """
    told = [(value, -1) for value in no_sites() if not isinstance(value, list)]
    told += [(tuple(triangles), -1), ({triangles[0]: True}, -1), ([], 0), (triangles[:1] * 2, 2)]
    a, b, c = triangles[0]
    for wrong in neither() + [(a, b), (a, b, c, a), (a, b, b), (a, a, a), (a, b, (9, 9)), [a, b, c]]:
        told += [([wrong], 0), (triangles[:1] + [wrong, None], 1), (triangles + [wrong], len(triangles))]
    for wrong in no_sites():
        told += [([(a, b, wrong)], 0), (triangles + [(wrong, b, c)], len(triangles))]
    told += [(triangles[1:], len(triangles) - 1), (triangles + [(c, b, a)], len(triangles) + 1)]
    return told


def no_edges(sites):
    """Values that are no tuples of two sites, the lesser one first."""
    a, b = sorted(sites)[:2]
    told = neither() + [(b, a), (a, a), (a,), (a, b, b), [a, b], (a, (FAR, FAR))]
    return told + [(a, wrong) for wrong in no_sites()] + [(wrong, b) for wrong in no_sites()]


def no_boxes():
    """Values that are no boxes."""
    most = 10 ** 7
    told = neither() + [
        (0, 0, 0, 1), (0, 0, 1, 0), (1, 0, 0, 1), (0, 1, 1, 0), (0, 0, 1), (0, 0, 1, 1, 1), [0, 0, 1, 1],
        (-most - 1, 0, 1, 1), (0, -most - 1, 1, 1), (0, 0, most + 1, 1), (0, 0, 1, most + 1),
        (False, 0, 1, 1), (0, False, 1, 1), (0, 0, True, 1), (0, 0, 1, True), (0, 0, 10 ** 900, 1)]
    for wrong in (None, "1", [1], (1,), nested_tuple(), nested_list(), 1j):
        told += [(wrong, 0, 1, 1), (0, wrong, 1, 1), (0, 0, wrong, 1), (0, 0, 1, wrong)]
    return told


def no_many():
    """Values that are no integers from 1 to 200."""
    return [value for value in neither() if value != 1 or isinstance(value, bool)] + [
        0, -1, 201, 10 ** 900, True, False, (1,), [1], "1"]


def no_squares():
    """Values that are no fractions from 0 on."""
    told = neither() + [
        (-1, 1), (-1, 10 ** 30), (1, 0), (0, 0), (0, 2), (0, -1), (2, 2), (4, 6), (-3, -1), (3, -1), (1, 1, 1),
        (1,), [1, 1], (True, 1), (False, 1), (0, True), (3, True), (10 ** 900, 10 ** 900)]
    for wrong in (None, "1", [1], (1,), nested_tuple(), nested_list(), 1j):
        told += [(wrong, 1), (1, wrong)]
    return told


def no_weighted(beside=()):
    """Values that are no weighted sites."""
    most = 10 ** 13
    told = neither() + [
        (0, 0), (0, 0, 0, 0), [0, 0, 0], ((0, 0), 0), (0, 0, most + 1), (0, 0, -most - 1), (FAR + 1, 0, 0),
        (0, -FAR - 1, 0), (0, 0, True), (0, False, 0), (True, 0, 0), (0, 0, 10 ** 900), (0, 0, nested_list())]
    for wrong in (None, "1", [1], (1,), nested_tuple(), 1j):
        told += [(wrong, 0, 0), (0, wrong, 0), (0, 0, wrong)]
    return [value for value in told if value != (0, 0, 1)] + list(beside)


def no_heavy(sites):
    """Values that are none of the weighted sites."""
    return no_weighted() + [(x, y, w + 1) for x, y, w in sites] + [(9, 9, 0)]


def wrong_weighted():
    """Values that are no lists of weighted sites, each with the at that is told."""
    told = [(value, -1) for value in no_weighted() if not isinstance(value, list)] + [([], 0)]
    for wrong in no_weighted() + [(4, 0, 9), (4, 0, 0)]:
        told += [([(0, 0, 0), (4, 0, 0), wrong], 2), ([(4, 0, 0), wrong, (1, 1, 0), wrong], 1)]
    many = [(x, y, x - y) for x in range(7) for y in range(5)]
    told += [(many[:31], 30), (many, 30), (many[:30] + [None], 30), (many[:30] + [many[0]], 30)]
    told += [(many[:29] + [(0, 0, 5)], 29), ([(0, 0)], 0), ([own_list()], 0)]
    return told


def wrong_told(sites):
    """Values that are no told edges of the sites of the table."""
    a, b = sites[:2]
    told = [value for value in neither() if value != []] + [((a, b),), [a, b], [[a, b]], [(a, b)] * 201]
    for wrong in no_members(sites) + [a]:
        told += [[(a, wrong)], [(a, b), (wrong, a)]]
    for wrong in neither() + [(a,), (a, b, b), (a, a)]:
        told.append([(a, b), wrong])
    # Crossing, and with another site between.
    return told + [[((0, 0), (4, 0)), ((2, -1), (2, 1))], [((2, -1), (2, 3))]]


def no_numbers(low, high, name=None):
    """Values that are no integers from low to high; high may be None."""
    told = [value for value in neither() if not isinstance(value, int) or isinstance(value, bool)]
    told += [low - 1, -10 ** 900, (low,), [low], True]
    return told if high is None else told + [high + 1, 10 ** 900]


def no_deeds():
    """Values that are no lists of deeds."""
    told = [value for value in neither() if value != []] + [(("put", (0, 0)),), {("put", (0, 0)): True}]
    for wrong in neither() + [("put",), ("put", (0, 0), (0, 0)), ("take",), ("move", (0, 0)), ["put", (0, 0)],
                              ("Put", (0, 0)), ("", (0, 0)), (b"put", (0, 0)), ((0, 0), "put"), ("undo",),
                              (nested_tuple(), (0, 0)), (None, (0, 0)), ("move", (0, 0), (1, 1), (2, 2))]:
        # Wrong items come ahead of what the deeds do.
        told += [[wrong], [("put", (0, 0)), wrong], [("take", (0, 0)), wrong], [("put", None), wrong]]
    return told
