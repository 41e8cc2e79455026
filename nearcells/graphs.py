"""Graphs of near sites: trees, and what discs about the sites cover together."""

from nearcells.checks import check_square, is_pair
from nearcells.joins import alone, determinant, join, leader
from nearcells.plane import circle_through
from nearcells.subdivision import Subdivision
from nearcells.wholes import fraction, is_less, sign


def length(a, b):
    """The squared distance of two sites."""
    return (b[0] - a[0]) * (b[0] - a[0]) + (b[1] - a[1]) * (b[1] - a[1])


def nearest_pairs(sites):
    """The pairs of which one site has no other site nearer than the other one."""
    # As in all graphs here, none but edges of the subdivision are in question.
    lines = Subdivision(sites).lines
    least = {}
    for a, b in lines:
        square = length(a, b)
        least[a] = min(square, least.get(a, square))
        least[b] = min(square, least.get(b, square))
    return [(a, b) for a, b in lines if length(a, b) in (least[a], least[b])]


def least_tree(sites):
    """The least tree that comes of going through the pairs by their lengths."""
    sub = Subdivision(sites)
    leads = alone(sub.rows)
    ahead = sorted([(length(a, b), a, b) for a, b in sub.lines])
    return [(a, b) for _, a, b in ahead if join(leads, a, b)]


def tree_pairs(sites):
    """The pairs that are in some least tree."""
    sub = Subdivision(sites)
    leads = alone(sub.rows)
    told = []
    for group in groups_by_length(sub.lines):
        told.extend([(a, b) for a, b in group if leader(leads, a) != leader(leads, b)])
        for a, b in group:
            join(leads, a, b)
    return sorted(told)


def groups_by_length(pairs):
    """Lists of the pairs of one length each, the shortest ones first."""
    groups = {}
    for a, b in pairs:
        groups.setdefault(length(a, b), []).append((a, b))
    return [groups[square] for square in sorted(groups)]


def relative(sites):
    """The pairs to whose sites both no other site is nearer than they are to one another."""
    sub = Subdivision(sites)
    return [(a, b) for a, b in gabriel_lines(sub) if is_lune_free(sub.rows, a, b)]


def is_lune_free(rows, a, b):
    """Whether no site is nearer to both a and b than they are to one another."""
    square = length(a, b)
    return not any([length(a, site) < square and length(b, site) < square for site in rows])


def gabriel(sites):
    """The pairs with no other site inside of, or on, the circle with both as a diameter."""
    return gabriel_lines(Subdivision(sites))


def gabriel_lines(sub):
    """What gabriel tells, for a subdivision."""
    return [(a, b) for a, b in sub.lines if corner_angle(sub, a, b) > 0 and corner_angle(sub, b, a) > 0]


def corner_angle(sub, a, b):
    """1, 0 or -1 for an acute, right or obtuse angle at which the face left of an edge sees it.

    Each corner of the face sees the edge alike. It is obtuse if this face's centre
    is beyond the edge; what has no face is seen at an acute angle.
    """
    if (a, b) not in sub.before:
        return 1
    c = sub.before[(a, b)]
    scalar = (c[0] - a[0]) * (c[0] - b[0]) + (c[1] - a[1]) * (c[1] - b[1])
    return sign(scalar)


def tree_count(sites):
    """How many least trees there are."""
    sub = Subdivision(sites)
    leads = alone(sub.rows)
    many = 1
    for group in groups_by_length(sub.lines):
        # The pairs of one length join what shorter ones have made, in this many ways.
        pairs = [(leader(leads, a), leader(leads, b)) for a, b in group]
        for a, b in pairs:
            join(leads, a, b)
        many = many * ways_to_join([(a, b) for a, b in pairs if a != b], leads)
    return many


def ways_to_join(pairs, leads):
    """How many sets of pairs join what all of them do, with none to spare."""
    index = {}
    for site in sorted([site for pair in pairs for site in pair]):
        # One of those that are joined has no row and no column.
        if site != leader(leads, site) and site not in index:
            index[site] = len(index)
    matrix = [{} for _ in index]
    for pair in pairs:
        for one, other in (pair, pair[::-1]):
            if one in index:
                row = matrix[index[one]]
                row[index[one]] = row.get(index[one], 0) + 1
                if other in index:
                    row[index[other]] = row.get(index[other], 0) - 1
    return determinant(matrix)


def is_least_tree(sites, pairs):
    """Whether a value is the list of the pairs of a least tree, in any order."""
    tree = least_tree(sites)
    if not isinstance(pairs, list) or not all([is_pair(pair, sites) for pair in pairs]):
        return False
    leads = alone(sites)
    if not all([join(leads, a, b) for a, b in pairs]):
        return False
    return sorted([length(a, b) for a, b in pairs]) == [length(a, b) for a, b in tree]


def shape(sites, square):
    """What discs with a squared radius about all sites cover together."""
    sub = Subdivision(sites)
    check_square(square, "square")
    edges = [(a, b) for a, b in sub.lines if not is_less(square, reach_square(sub, a, b))]
    faces = [list(face) for face in sub.parts if not is_less(square, sub.face_circle(face)[1])]
    leads = alone(sub.rows)
    joins = [join(leads, a, b) for a, b in edges]
    pieces = len(sub.rows) - joins.count(True)
    return (edges, faces, pieces, pieces - len(sub.rows) + len(edges) - len(faces))


def reach_square(sub, a, b):
    """The least squared distance of two joined sites from a place on the border of their cells."""
    if corner_angle(sub, a, b) < 0:
        return circle_through(a, b, sub.before[(a, b)])[1]
    if corner_angle(sub, b, a) < 0:
        return circle_through(a, b, sub.before[(b, a)])[1]
    return fraction(length(a, b), 4)
