"""Graphs of near sites: trees, and what discs about the sites cover together."""

from nearcells.checks import ascending, check_square, is_pair
from nearcells.joins import alone, determinant, join, leader
from nearcells.links import faces_of, linked
from nearcells.plane import circle_through
from nearcells.wholes import is_less


def length(a, b):
    """The squared distance of two sites."""
    return (b[0] - a[0]) * (b[0] - a[0]) + (b[1] - a[1]) * (b[1] - a[1])


def lines_of(rows, links):
    """The edges as tuples (square, a, b): the squared length, and the numbers, the lesser one first."""
    lines = []
    for a, of_a in enumerate(links):
        x, y = rows[a]
        for b in of_a:
            if b > a:
                u, v = rows[b]
                lines.append(((u - x) * (u - x) + (v - y) * (v - y), a, b))
    return lines


def nearest_pairs(sites):
    """The pairs of which one site has no other site nearer than the other one."""
    # As in all graphs here, none but edges of the subdivision are in question.
    rows = ascending(sites)
    lines = sorted(lines_of(rows, linked(rows)))
    least = {}
    for square, a, b in lines:
        least.setdefault(a, square)
        least.setdefault(b, square)
    return sorted([(rows[a], rows[b]) for square, a, b in lines if square in (least[a], least[b])])


def least_tree(sites):
    """The least tree that comes of going through the pairs by their lengths."""
    rows = ascending(sites)
    leads = list(range(len(rows)))
    lines = sorted(lines_of(rows, linked(rows)))
    return [(rows[a], rows[b]) for _, a, b in lines if join(leads, a, b)]


def tree_pairs(sites):
    """The pairs that are in some least tree."""
    rows = ascending(sites)
    leads = list(range(len(rows)))
    told = []
    for group in groups_of(lines_of(rows, linked(rows))):
        if len(group) == 1:
            told.extend([(rows[a], rows[b]) for a, b in group if join(leads, a, b)])
        else:
            told.extend([(rows[a], rows[b]) for a, b in group if leader(leads, a) != leader(leads, b)])
            for a, b in group:
                join(leads, a, b)
    return sorted(told)


def groups_of(lines):
    """Lists of the pairs of one length each, the shortest ones first."""
    groups = {}
    for square, a, b in lines:
        if square in groups:
            groups[square].append((a, b))
        else:
            groups[square] = [(a, b)]
    return [groups[square] for square in sorted(groups)]


def relative(sites):
    """The pairs to whose sites both no other site is nearer than they are to one another."""
    rows = ascending(sites)
    return [(a, b) for a, b in gabriel_lines(rows) if is_lune_free(rows, a, b)]


def is_lune_free(rows, a, b):
    """Whether no site is nearer to both a and b than they are to one another."""
    square = length(a, b)
    ax, ay = a
    bx, by = b
    for x, y in rows:
        if (x - ax) * (x - ax) + (y - ay) * (y - ay) < square:
            if (x - bx) * (x - bx) + (y - by) * (y - by) < square:
                return False
    return True


def gabriel(sites):
    """The pairs with no other site inside of, or on, the circle with both as a diameter."""
    return gabriel_lines(ascending(sites))


def gabriel_lines(rows):
    """What gabriel tells, for ascending sites."""
    links = linked(rows)
    told = []
    for a, of_a in enumerate(links):
        ax, ay = rows[a]
        for b in sorted(of_a):
            if b > a:
                bx, by = rows[b]
                # The corner of a face sees its side at an acute angle; what has no face does.
                for c in (of_a[b], links[b][a]):
                    if c >= 0:
                        x, y = rows[c]
                        if (ax - x) * (bx - x) + (ay - y) * (by - y) <= 0:
                            break
                else:
                    told.append((rows[a], rows[b]))
    return told


def tree_count(sites):
    """How many least trees there are."""
    rows = ascending(sites)
    leads = list(range(len(rows)))
    many = 1
    for group in groups_of(lines_of(rows, linked(rows))):
        if len(group) == 1:
            join(leads, group[0][0], group[0][1])
        else:
            # The pairs of one length join what shorter ones have made, in this many ways.
            pairs = [(leader(leads, a), leader(leads, b)) for a, b in group]
            pairs = [(a, b) for a, b in pairs if a != b]
            joins = [join(leads, a, b) for a, b in pairs]
            if False in joins:
                many = many * ways_to_join(pairs, leads)
    return many


def ways_to_join(pairs, leads):
    """How many sets of pairs join what all of them do, with none to spare."""
    index = {}
    for site in sorted([site for pair in pairs for site in pair]):
        # One of those that are joined has no row and no column.
        if site != leader(leads, site) and site not in index:
            index[site] = len(index)
    matrix = [{} for _ in index]
    for pair in pairs:
        for one, other in (pair, pair[::-1]):
            if one in index:
                row = matrix[index[one]]
                row[index[one]] = row.get(index[one], 0) + 1
                if other in index:
                    row[index[other]] = row.get(index[other], 0) - 1
    return determinant(matrix)


def is_least_tree(sites, pairs):
    """Whether a value is the list of the pairs of a least tree, in any order."""
    tree = least_tree(sites)
    if not isinstance(pairs, list) or not all([is_pair(pair, sites) for pair in pairs]):
        return False
    leads = alone(sites)
    if not all([join(leads, a, b) for a, b in pairs]):
        return False
    return sorted([length(a, b) for a, b in pairs]) == [length(a, b) for a, b in tree]


def shape(sites, square):
    """What discs with a squared radius about all sites cover together."""
    rows = ascending(sites)
    check_square(square, "square")
    links = linked(rows)
    faces = [face for face in faces_of(rows, links)
             if not is_less(square, circle_through(face[0], face[1], face[2])[1])]
    leads = list(range(len(rows)))
    edges, pieces = [], len(rows)
    for length_square, a, b in sorted(lines_of(rows, links)):
        # No place of the border is nearer than the middle.
        if length_square * square[1] > 4 * square[0]:
            break
        if is_reached(rows, links, a, b, square):
            edges.append((rows[a], rows[b]))
            if join(leads, a, b):
                pieces -= 1
    return (sorted(edges), faces, pieces, pieces - len(rows) + len(edges) - len(faces))


def is_reached(rows, links, a, b, square):
    """Whether a border with its middle in the discs, or beyond its ends, has a place in them."""
    ax, ay = rows[a]
    bx, by = rows[b]
    for c in (links[a][b], links[b][a]):
        if c >= 0:
            x, y = rows[c]
            # The middle is beyond the end if the corner of the face sees the edge at an obtuse angle.
            if (ax - x) * (bx - x) + (ay - y) * (by - y) < 0:
                return not is_less(square, circle_through(rows[a], rows[b], rows[c])[1])
    return True
