"""What changes if a site comes, goes, or moves."""

from nearcells.around import (area_of, faces_behind, faces_inside, faces_level, joined_sites, lost_edges,
                              points_about, ring_of, told_faces)
from nearcells.checks import MOST_SITES, check_member, check_place, check_site, check_sites
from nearcells.errors import InvalidBound, LimitExceeded
from nearcells.mesh import told_edge
from nearcells.wholes import fraction


def coming(sites, site):
    """What a further site does to faces and edges: (gone, grown, lost, won)."""
    check_sites(sites)
    check_site(site, "site")
    if site in sites:
        raise InvalidBound("site")
    if len(sites) == MOST_SITES:
        raise LimitExceeded(MOST_SITES)
    ring, is_bounded = ring_of(points_about(sites, (site[0], site[1], 1)))
    gone, grown = faces_inside(ring, is_bounded), faces_level(ring)
    won = sorted([told_edge(site, other) for other in joined_sites(ring)])
    return (told_faces(gone), told_faces(grown), lost_edges(ring, gone + grown), won)


def going(sites, site):
    """What a site leaves: the tuple (gone, come, lost, won) of faces and edges."""
    check_sites(sites)
    check_member(site, sites, "site")
    if len(sites) == 1:
        raise InvalidBound("site")
    ring, is_bounded = ring_of(points_about(sites, (site[0], site[1], 1)))
    # What comes is what the site would break or make grow if it came back.
    come = faces_inside(ring, is_bounded) + faces_level(ring)
    lost = sorted([told_edge(site, other) for other in joined_sites(ring)])
    return (told_faces(faces_behind(ring, site)), told_faces(come), lost, lost_edges(ring, come))


def covering(sites, place):
    """The faces whose circle has a place inside, and those whose circle it is on."""
    check_sites(sites)
    check_place(place, "place")
    x, y, d = place
    ring, is_bounded = ring_of(points_about(sites, place))
    if d == 1 and (x, y) in sites:
        return ([], told_faces(faces_behind(ring, (x, y))))
    return (told_faces(faces_inside(ring, is_bounded)), told_faces(faces_level(ring)))


def changed_edges(before, behind):
    """The ascending edges that are there before and not behind, and the other way around."""
    old = {edge: True for edge in before}
    new = {edge: True for edge in behind}
    return ([edge for edge in before if edge not in new], [edge for edge in behind if edge not in old])


def moved(sites, one, other):
    """The edges that are lost, and those that are won, if a site moves."""
    check_sites(sites)
    check_member(one, sites, "one")
    check_site(other, "other")
    if other != one and other in sites:
        raise InvalidBound("other")
    rest = [site for site in sites if site != one]
    ends, cut = what_comes(rest, one)
    others, others_cut = what_comes(rest, other)
    # Both sets of edges are those of the rest, without what is cut, and with the new ends.
    gone, come = changed_edges(ends, others)
    won, lost = changed_edges(cut, others_cut)
    return (sorted(lost + [told_edge(one, site) for site in gone]),
            sorted(won + [told_edge(other, site) for site in come]))


def what_comes(rest, site):
    """The sites that a further site is joined with, and the edges of the others that it cuts."""
    ring, is_bounded = ring_of(points_about(rest, (site[0], site[1], 1)))
    return (joined_sites(ring), lost_edges(ring, faces_inside(ring, is_bounded) + faces_level(ring)))


def shares(sites, place):
    """From whom a new cell at a place would be taken: the tuples (site, part), or None."""
    check_sites(sites)
    check_place(place, "place")
    x, y, d = place
    if d == 1 and (x, y) in sites:
        return [((x, y), (1, 1))]
    ring, is_bounded = ring_of(points_about(sites, place))
    if not is_bounded:
        return None
    parts = {point[3]: (0, 1) for point, _, _, _ in ring}
    for face in faces_inside(ring, True):
        for b, c in zip(face[1:], face[2:]):
            add_corners(parts, face[0], b, c, 1)
    # Of the old cells the new ones are left.
    rim = [point[1:] for point, _, _, _ in ring]
    for b, c in zip(rim, rim[1:] + rim[:1]):
        add_corners(parts, (0, 0, None), b, c, -1)
    top, bottom = area_of(ring)
    return [(site, fraction(parts[site][0] * bottom, parts[site][1] * top)) for site in sorted(parts)]


def add_corners(parts, a, b, c, way):
    """Add to the parts of three sites, told as (x, y, site), what is nearest to them in their face.

    The parts are double areas, times 4, as (top, bottom); they are made less if way is -1.
    """
    ux, uy = b[0] - a[0], b[1] - a[1]
    vx, vy = c[0] - a[0], c[1] - a[1]
    area = ux * vy - uy * vx
    at_a = ux * vx + uy * vy
    to_b, to_c = ux * ux + uy * uy, vx * vx + vy * vy
    at_b, at_c = to_b - at_a, to_c - at_a
    # The scalar product at a corner is the cotangent times the area: by it the centre is found.
    by_a, by_b, by_c = (at_b + at_c) * at_a * way, to_c * at_b * way, to_b * at_c * way
    for (_, _, site), more in ((a, by_b + by_c), (b, by_a + by_c), (c, by_a + by_b)):
        if site is not None:
            top, bottom = parts[site]
            parts[site] = (top * area + more * bottom, bottom * area)
