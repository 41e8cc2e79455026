"""What is next to a place among sites: the cell that it has, or would have, and what it takes.

The place is the middle of all: the points about it are tuples (square, x, y, site), x and y
told from the place and multiplied by its d, and square the sum of their squares.

The ring of a place is the list of the sites whose cells have a border with its own, turning
left, as tuples (point, top, area, level). Behind the site is the face of the place, the site
and the sites of the points in level, one of which is the next one of the ring; its centre is
in the middle of place and site, plus top / (2 * area) times the vector (-y, x). There is no
face if area is 0.
"""

from nearcells.mesh import told_edge
from nearcells.outline import corners_of
from nearcells.plane import place_of


def points_about(rows, place):
    """The points of sites about a place, without a site that is there."""
    px, py, d = place
    return [(square, x, y, site) for site in rows for x in [site[0] * d - px] for y in [site[1] * d - py]
            for square in [x * x + y * y] if square]


def ring_of(points):
    """The ring of a place, and whether its cell is bounded."""
    if not points:
        return ([], False)
    first = min(points)
    ring = ring_from(points, first)
    if ring[-1][2] > 0:
        return (ring, True)
    # It does not come back: so the other way, too, as in a mirror.
    back = ring_from([mirrored(point) for point in points], mirrored(first))
    if len(ring) == 1 and len(back) == 1:
        return (row_ring(points, first), False)
    told = []
    for (one, _, _, _), (point, top, area, level) in zip(back[1:], back):
        # The same face, but seen from its other end.
        others = [mirrored(other) for other in level if other != one]
        told.append((mirrored(one), point[0] - one[0] + top, area, others + [mirrored(point)]))
    return (told[::-1] + ring, False)


def mirrored(point):
    """A point in the mirror."""
    square, x, y, site = point
    return (square, -x, y, site)


def row_ring(points, first):
    """The ring of a place in a row of points: the nearest ones on both sides of it."""
    _, x, y, _ = first
    behind = sorted([point for point in points if x * point[1] + y * point[2] < 0])
    return [(point, 0, 0, []) for point in [first] + behind[:1]]


def ring_from(points, first):
    """The part of a ring from one of its points on, turning left until it ends or comes back."""
    ring = []
    point = first
    while True:
        _, ax, ay, _ = point
        top, area, level = 1, 0, []
        for other in points:
            square, x, y, _ = other
            turn = ax * y - ay * x
            if turn > 0:
                share = square - ax * x - ay * y
                room = share * area - top * turn
                if room < 0:
                    bx, by, top, area, level = x, y, share, turn, [other]
                elif room == 0:
                    # Of several on one circle the last one turning left is the next one.
                    if bx * y - by * x > 0:
                        bx, by, top, area, level = x, y, share, turn, level + [other]
                    else:
                        level = [other] + level
        ring.append((point, top, area, level))
        if not level or level[-1] == first:
            return ring
        point = level[-1]


def centre_behind(part, place):
    """The centre of the face behind a part of the ring of a place, or None."""
    (_, x, y, _), top, area, _ = part
    if area == 0:
        return None
    px, py, d = place
    double = 2 * area
    return place_of(x * area - y * top + double * px, y * area + x * top + double * py, double * d)


def area_of(ring):
    """Two times the area of a bounded cell, times d * d and 4, as (top, bottom)."""
    top, bottom = 0, 1
    for (one, share, area, _), (other, _, _, _) in zip(ring, ring[1:] + ring[:1]):
        # What the triangles from the place to the halves of both borders are together.
        part = 2 * one[0] * other[0] - (one[0] + other[0]) * (other[0] - share)
        top, bottom = top * area + part * bottom, bottom * area
    return (top, bottom)


def faces_inside(ring, is_bounded):
    """The faces of the sites whose circle has the place inside, as lists of tuples (x, y, site)."""
    points = [point for point, _, _, _ in ring]
    ahead = [(0, len(points) - 1)] if is_bounded else near_ways(points)
    faces = []
    while ahead:
        low, high = ahead.pop()
        if high - low > 1:
            on = [low, *level_between(points, low, high), high]
            faces.append([points[at][1:] for at in on])
            ahead.extend(list(zip(on, on[1:])))
    return faces


def near_ways(points):
    """The sides of the hull of a ring's points that the place sees, by their places in the ring."""
    chain = []
    for at, (_, x, y, _) in enumerate(points):
        while len(chain) > 1:
            _, ax, ay, _ = points[chain[-2]]
            _, bx, by, _ = points[chain[-1]]
            if (bx - ax) * (y - ay) <= (by - ay) * (x - ax):
                break
            chain.pop()
        chain.append(at)
    return list(zip(chain, chain[1:]))


def level_between(points, low, high):
    """The corners between two points of a ring of the face beside the way from one to the other.

    All faces on this side of the way have their corners between these points.
    """
    if high - low == 2:
        return [low + 1]
    _, ax, ay, _ = points[high]
    ux, uy = points[low][1] - ax, points[low][2] - ay
    top, area, level = 1, 0, []
    for at in range(low + 1, high):
        x, y = points[at][1] - ax, points[at][2] - ay
        turn = ux * y - uy * x
        if turn > 0:
            share = x * (x - ux) + y * (y - uy)
            room = share * area - top * turn
            if room < 0:
                top, area, level = share, turn, [at]
            elif room == 0:
                level.append(at)
    return level


def faces_level(ring):
    """The faces of the sites whose circle the place is on, as lists of tuples (x, y, site)."""
    return [turned_left([point[1:]] + [other[1:] for other in level])
            for point, _, _, level in ring if len(level) > 1]


def turned_left(corners):
    """The corners of a face in their order, for tuples (x, y, site) in any order."""
    known = {(x, y): (x, y, site) for x, y, site in corners}
    return [known[spot] for spot in corners_of(sorted(known))]


def faces_behind(ring, site):
    """The faces that a site in the middle of a ring is a corner of, as lists of tuples (x, y, site)."""
    faces = []
    for point, _, _, level in ring:
        if len(level) == 1:
            faces.append([(0, 0, site), point[1:], level[0][1:]])
        elif level:
            faces.append(turned_left([(0, 0, site), point[1:]] + [other[1:] for other in level]))
    return faces


def told_faces(faces):
    """Faces of tuples (x, y, site), told by their sites from the least one on, ascending."""
    told = []
    for face in faces:
        sites = [site for _, _, site in face]
        at = sites.index(min(sites))
        told.append(sites[at:] + sites[:at])
    return sorted(told)


def lost_edges(ring, faces):
    """The edges of the sites that a site at the place would cut, ascending; faces are as above."""
    lost = {}
    for face in faces:
        for (ax, ay, a), (bx, by, b) in zip(face, face[1:] + face[:1]):
            turn = ax * by - ay * bx
            # The place is beyond a side of a face, in its circle or on it; or between its ends.
            if turn < 0 or (turn == 0 and ax * bx + ay * by < 0):
                lost[told_edge(a, b)] = True
    if len(ring) == 2 and ring[0][2] == 0 and ring[1][2] == 0:
        # In a row the place is between two sites.
        lost[told_edge(ring[0][0][3], ring[1][0][3])] = True
    return sorted(lost)


def joined_sites(ring):
    """The sites of a ring, ascending."""
    return sorted([point[3] for point, _, _, _ in ring])
