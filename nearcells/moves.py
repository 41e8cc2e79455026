"""What changes if a site comes, goes, or moves."""

from nearcells.cells import part_of
from nearcells.checks import MOST_SITES, check_member, check_place, check_site
from nearcells.errors import InvalidBound, LimitExceeded
from nearcells.mesh import told_edge
from nearcells.nearby import site_at
from nearcells.outline import side_of_hull
from nearcells.plane import circle_through, depth_in_circle, enlarged, place_of
from nearcells.polygons import double_area_of_places
from nearcells.subdivision import Subdivision
from nearcells.wholes import fraction


def coming(sites, site):
    """What a further site does to faces and edges: (gone, grown, lost, won)."""
    sub = Subdivision(sites)
    check_site(site, "site")
    if site in sites:
        raise InvalidBound("site")
    if len(sites) == MOST_SITES:
        raise LimitExceeded(MOST_SITES)
    gone, grown = faces_around(sub, (site[0], site[1], 1))
    lost, won = changed_edges(sub.lines, Subdivision(sites + [site]).lines)
    return (gone, grown, lost, won)


def faces_around(sub, place):
    """The faces whose circle has a place inside, and those whose circle it is on."""
    depths = [depth_in_circle(face[0], face[1], face[2], place) for face in sub.parts]
    gone = [list(face) for face, depth in zip(sub.parts, depths) if depth > 0]
    return (gone, [list(face) for face, depth in zip(sub.parts, depths) if depth == 0])


def changed_edges(before, behind):
    """The ascending edges that are there before and not behind, and the other way around."""
    old = {edge: True for edge in before}
    new = {edge: True for edge in behind}
    return ([edge for edge in before if edge not in new], [edge for edge in behind if edge not in old])


def going(sites, site):
    """What a site leaves: the tuple (gone, come, lost, won) of faces and edges."""
    sub = Subdivision(sites)
    check_member(site, sites, "site")
    if len(sites) == 1:
        raise InvalidBound("site")
    rest = Subdivision([other for other in sites if other != site])
    lost, won = changed_edges(sub.lines, rest.lines)
    gone = [list(face) for face in sub.parts if site in face]
    old = {tuple(face): True for face in sub.parts}
    return (gone, [list(face) for face in rest.parts if tuple(face) not in old], lost, won)


def covering(sites, place):
    """The faces whose circle has a place inside, and those whose circle it is on."""
    sub = Subdivision(sites)
    check_place(place, "place")
    return faces_around(sub, place)


def moved(sites, one, other):
    """The edges that are lost, and those that are won, if a site moves."""
    sub = Subdivision(sites)
    check_member(one, sites, "one")
    check_site(other, "other")
    if other != one and other in sites:
        raise InvalidBound("other")
    behind = Subdivision([other if site == one else site for site in sites])
    lost, won = changed_edges(sub.lines, renamed(behind.lines, other, one))
    return (lost, renamed(won, one, other))


def renamed(edges, one, other):
    """The ascending edges with a site other where one was."""
    told = []
    for a, b in edges:
        told.append(told_edge(other if a == one else a, other if b == one else b))
    return sorted(told)


def shares(sites, place):
    """From whom a new cell at a place would be taken: the tuples (site, part), or None."""
    sub = Subdivision(sites)
    check_place(place, "place")
    here = site_at(sub.rows, place)
    if here is not None:
        return [(here, (1, 1))]
    if side_of_hull(sub.rows, place) < 1:
        return None
    sides = outer_sides(faces_around(sub, place)[0])
    new = [centre_with(place, a, b) for a, b in sides]
    whole = double_area_of_places(new)
    told = []
    for site in sorted([a for a, _ in sides]):
        # The centre of a face with the place inside of its circle is taken from all its corners.
        part = double_area_of_places(part_of(sub, site, new))
        told.append((site, fraction(part[0] * whole[1], part[1] * whole[0])))
    return told


def outer_sides(faces):
    """The sides around faces that lie side by side, each one behind the one before it."""
    following = {}
    for face in faces:
        for a, b in zip(face, face[1:] + face[:1]):
            following[(a, b)] = True
    ends = {a: b for a, b in following if (b, a) not in following}
    sides = [min(list(ends.items()))]
    while sides[-1][1] != sides[0][0]:
        sides.append((sides[-1][1], ends[sides[-1][1]]))
    return sides


def centre_with(place, a, b):
    """The centre of the circle through a place and two sites."""
    d = place[2]
    x, y, over = circle_through((place[0], place[1]), enlarged(a, d), enlarged(b, d))[0]
    return place_of(x, y, over * d)
