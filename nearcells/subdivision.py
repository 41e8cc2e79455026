"""The subdivision that joins sites whose cells have a border."""

from nearcells.checks import ascending, check_two, is_site
from nearcells.errors import InvalidBound, InvalidTriangles
from nearcells.faces import corners_before, faces_of, fans_of
from nearcells.mesh import empty_mesh, inner_edges, is_wrong, joined_edges
from nearcells.plane import circle_through, on_stretch, turn
from nearcells.triangles import triangulation
from nearcells.wholes import fraction, is_less


class Subdivision:
    """The edges and the faces of sites.

    rows are the sites, lines the edges and parts the faces, all ascending.
    before has, for an edge from a to b with a face on its left, the tuple (a, b)
    with the corner of the face ahead of a: the next neighbour of a, turning left.
    """

    def __init__(self, sites):
        self.rows = ascending(sites)
        mesh = empty_mesh(self.rows)
        self.lines = joined_edges(mesh, self.rows)
        self.before = corners_before(mesh, self.lines)
        self.parts = faces_of(self.before)

    def __eq__(self, other):
        return isinstance(other, Subdivision) and self.rows == other.rows

    def sites(self):
        """The ascending list of the sites."""
        return list(self.rows)

    def edges(self):
        """The ascending list of the edges (a, b), a less than b."""
        return list(self.lines)

    def faces(self):
        """The ascending list of the faces, each from its least corner, turning left."""
        return [list(face) for face in self.parts]

    def triangles(self):
        """The ascending list of the triangles that the faces are cut into."""
        return sorted([triangle for face in self.parts for triangle in fans_of(face)])

    def neighbours(self, site):
        """The sites that are joined with one, turning left."""
        if not is_site(site) or site not in self.rows:
            raise InvalidBound("site")
        joined = [b if a == site else a for a, b in self.lines if site in (a, b)]
        if len(self.parts) == 0:
            return sorted(joined)
        # On the border of the hull the first one is the next one on it: no face is on its right.
        ends = [other for other in joined if (other, site) not in self.before]
        told = [min(joined) if len(ends) == 0 else ends[0]]
        while len(told) < len(joined):
            told.append(self.before[(site, told[-1])])
        return told

    def face_circle(self, face):
        """The centre and the squared radius of the circle of a face."""
        if not isinstance(face, list) or not all([is_site(corner) for corner in face]):
            raise InvalidBound("face")
        if face not in self.parts:
            raise InvalidBound("face")
        return circle_through(face[0], face[1], face[2])


def centres(sites, a, b):
    """The bounds (low, high) of the centres of circles through a and b without a site inside."""
    rows = ascending(sites)
    check_two(a, b, rows)
    if between(rows, a, b) is not None:
        return None
    low, high = bounds(rows, a, b)
    return (None if low is None else fraction(*low), None if high is None else fraction(*high))


def between(rows, a, b):
    """The least site on the stretch from a to b, besides these, or None."""
    for site in rows:
        if site != a and site != b and on_stretch(a, b, site):
            return site
    return None


def bounds(rows, a, b):
    """What centres tells if no site is between a and b, as tuples that may have a common divisor."""
    low, high = None, None
    for site in rows:
        area = turn(a, b, site)
        if area > 0:
            share = centre_share(a, b, site)
            high = share if high is None or is_less(share, high) else high
        elif area < 0:
            share = centre_share(a, b, site)
            low = share if low is None or is_less(low, share) else low
    return (low, high)


def centre_share(a, b, site):
    """Where the centre of the circle through three sites is: t as a numerator and a denominator."""
    scalar = (site[0] - a[0]) * (site[0] - b[0]) + (site[1] - a[1]) * (site[1] - b[1])
    double = 2 * turn(a, b, site)
    return (scalar, double) if double > 0 else (-scalar, -double)


def avoided(sites, a, b):
    """The first paper against an edge between a and b, or None if there is one."""
    rows = ascending(sites)
    check_two(a, b, rows)
    site = between(rows, a, b)
    if site is not None:
        return (site,)
    low, high = bounds(rows, a, b)
    if low is None or high is None or is_less(low, high):
        return None
    # Circles with a site on the right inside have their centres below its own,
    # and those with one on the left inside have them above.
    right = [s for s in rows if turn(a, b, s) < 0 and not is_less(centre_share(a, b, s), high)]
    bound = centre_share(a, b, right[0])
    left = [s for s in rows if turn(a, b, s) > 0 and not is_less(bound, centre_share(a, b, s))]
    return (right[0], left[0])


def is_triangulation(sites, triangles):
    """Whether a value is a list of the triangles of a triangulation of the sites."""
    rows = ascending(sites)
    try:
        triangulation(rows, triangles)
    except InvalidTriangles:
        return False
    return True


def first_wrong(sites, triangles):
    """The least edge at which one circle has the third corner of the other side inside, or None."""
    mesh = triangulation(ascending(sites), triangles)
    return min([(a, b) for a, b in inner_edges(mesh) if is_wrong(mesh, a, b)], default=None)
