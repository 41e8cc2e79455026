"""All functions of the package with valid arguments, and the kind of each argument.

The kinds: sites, site, member (one of the sites), other (an unlike one of them), new
(none of them), goal (none of them but the one that moves), place, end (an unlike place),
direction, box, many, square, triangles, edge (one that can be flipped), weighted (a list), spot
(a weighted site), heavy (one of the weighted sites), told (told edges), one and two (integers from
1 or 2 to 10 ** 6), shift, height and tall (integers from 1 or 2 on), low, high, deeds, desk, and
free (any object).
"""

from nearcells.desks import replay

SITES = [(4, 0), (0, 0), (2, 1), (2, -1), (0, 5), (2, 3)]
CUT = [((0, 0), (4, 0), (2, 1)), ((0, 0), (2, -1), (4, 0)), ((0, 0), (2, 1), (0, 5)),
       ((2, 3), (0, 5), (2, 1)), ((4, 0), (2, 3), (2, 1))]
OTHER = [((0, 0), (2, 1), (2, -1)), ((4, 0), (2, 1), (2, -1)), ((0, 0), (2, 1), (0, 5)),
         ((2, 3), (0, 5), (2, 1)), ((4, 0), (2, 3), (2, 1))]
PLACE = (5, 3, 2)
SET = ("sites", SITES, "sites")
WAY = ("triangles", CUT, "triangles")
THREE = [("a", (0, 0), "site"), ("b", (4, 0), "site"), ("c", (1, 3), "site")]
TWO = [("a", (0, 0), "member"), ("b", (4, 0), "other")]
AT = ("place", PLACE, "place")
MEMBER = ("site", (2, 1), "member")
HEAVY = ("sites", [(4, 0, 0), (0, 0, 3), (2, 1, -1), (2, -1, 0), (0, 5, 2), (2, 3, -20)], "weighted")
TOLD = ("told", [((2, 1), (0, 0)), ((2, -1), (2, 1)), ((0, 0), (2, 1))], "told")
ROW = [("m", 3, "one"), ("n", 2, "one")]
DEEDS = [("put", (0, 0)), ("put", (2, 0)), ("move", (0, 0), (1, 1)), ("put", (0, 2))]

TAKES = {
    "signs.side": THREE,
    "signs.is_between": THREE,
    "signs.circle": THREE,
    "signs.in_circle": THREE + [("d", (1, 1), "site")],
    "signs.lift_side": THREE + [("d", (1, 1), "site")],
    "signs.square": [AT, ("site", (4, 0), "site")],
    "signs.nearer": [AT, ("a", (0, 0), "site"), ("b", (4, 0), "site")],
    "hulls.hull": [SET],
    "hulls.border": [SET],
    "hulls.double_hull": [SET],
    "hulls.layers": [SET],
    "hulls.layer_of": [SET, MEMBER],
    "hulls.where": [SET, AT],
    "hulls.seen_sides": [SET, ("site", (9, 9), "site")],
    "hulls.extreme": [SET, ("direction", (2, 1), "direction")],
    "subdivision.Subdivision": [SET],
    "subdivision.centres": [SET] + TWO,
    "subdivision.avoided": [SET] + TWO,
    "subdivision.is_triangulation": [SET, ("triangles", CUT, "free")],
    "subdivision.first_wrong": [SET, WAY],
    "building.wrong_edges": [SET, WAY],
    "building.flipped": [SET, WAY, ("edge", ((0, 0), (4, 0)), "edge")],
    "building.straightened": [SET, WAY],
    "building.placed": [SET],
    "building.volume": [SET, WAY],
    "building.steps": [("order", SITES, "sites")],
    "cells.cell": [SET, MEMBER],
    "cells.vertices": [SET],
    "cells.meeting": [SET, AT],
    "cells.touching": [SET],
    "cells.double_area": [SET, MEMBER],
    "cells.boxed": [SET, MEMBER, ("box", (-1, 0, 5, 3), "box")],
    "cells.along": [SET, ("a", PLACE, "place"), ("b", (1, -2, 1), "end")],
    "asks.nearest": [SET, AT, ("many", 2, "many")],
    "asks.closest": [SET],
    "asks.farthest": [SET],
    "asks.smallest_circle": [SET],
    "asks.is_smallest": [SET, AT, ("square", (5, 1), "free"), ("paper", ((0, 0), (4, 0)), "free")],
    "asks.largest_empty": [SET],
    "asks.locate": [SET, AT],
    "graphs.nearest_pairs": [SET],
    "graphs.least_tree": [SET],
    "graphs.tree_pairs": [SET],
    "graphs.relative": [SET],
    "graphs.gabriel": [SET],
    "graphs.tree_count": [SET],
    "graphs.is_least_tree": [SET, ("pairs", [((0, 0), (4, 0))], "free")],
    "graphs.shape": [SET, ("square", (2, 1), "square")],
    "moves.coming": [SET, ("site", (1, 1), "new")],
    "moves.going": [SET, MEMBER],
    "moves.covering": [SET, AT],
    "moves.shares": [SET, AT],
    "moves.moved": [SET, ("one", (0, 0), "member"), ("other", (1, 1), "goal")],
    "ways.all_ways": [SET],
    "ways.sure_edges": [SET],
    "ways.flips": [SET, WAY],
    "ways.fewest_flips": [SET, ("one", CUT, "triangles"), ("other", OTHER, "triangles")],
    "ways.angles": [SET, WAY],
    "ways.best_way": [SET],
    "powers.power": [AT, ("site", (4, 0, 7), "spot")],
    "powers.least_power": [HEAVY, AT],
    "powers.kind": [HEAVY, ("site", (2, 1, -1), "heavy")],
    "powers.power_edges": [HEAVY],
    "powers.power_faces": [HEAVY],
    "powers.power_vertices": [HEAVY],
    "powers.cover": [HEAVY, ("site", (2, 3, -20), "heavy")],
    "regular.regular": [SET, WAY],
    "regular.is_weights": [SET, WAY, ("weights", [0, 0, 0, 0, 0, 0], "free")],
    "regular.is_paper": [SET, WAY, ("paper", [(((0, 0), (4, 0)), 1)], "free")],
    "bound.sees": [SET, TOLD] + TWO,
    "bound.seen_from": [SET, TOLD, MEMBER],
    "bound.bound_faces": [SET, TOLD],
    "bound.bound_edges": [SET, TOLD],
    "bound.bound_triangles": [SET, TOLD],
    "bound.bound_wrong": [SET, ("told", TOLD[1][2:], "told"), WAY],
    "bound.crossed": [SET, WAY] + TWO,
    "farthest.farthest_from": [SET, AT],
    "farthest.far_cell": [SET, ("site", (0, 0), "member")],
    "farthest.far_vertices": [SET],
    "farthest.far_edges": [SET],
    "farthest.far_faces": [SET],
    "farthest.far_met": [SET, AT],
    "farthest.is_far_edge": [SET] + TWO,
    "shapes.counts": [SET],
    "shapes.grid": ROW,
    "shapes.grid_counts": ROW,
    "shapes.two_rows": ROW + [("shift", -1, "shift"), ("height", 2, "height")],
    "shapes.two_rows_counts": ROW + [("shift", -1, "shift")],
    "shapes.parabola": [("low", -2, "low"), ("high", 3, "high")],
    "shapes.parabola_counts": [("low", -2, "low"), ("high", 3, "high")],
    "shapes.zigzag": [("m", 3, "two"), ("n", 2, "two"), ("height", 2, "tall")],
    "shapes.zigzag_counts": [("m", 3, "two"), ("n", 2, "two")],
    "desks.replay": [("deeds", DEEDS, "deeds")],
    "desks.unlike": [("one", replay(DEEDS), "desk"), ("other", replay(DEEDS[:2]), "desk")],
}
