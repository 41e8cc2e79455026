"""The subdivision that joins sites whose cells have a border."""

from nearcells.checks import ascending, check_member, check_sites, check_two, is_site
from nearcells.errors import InvalidBound, InvalidTriangles
from nearcells.links import edges_of, faces_of, fans_of, linked, neighbours_of
from nearcells.mesh import wrong_in
from nearcells.plane import circle_through
from nearcells.triangles import triangulation
from nearcells.wholes import fraction


class Subdivision:
    """The edges and the faces of sites.

    rows are the ascending sites and links their links. lines are the edges and parts the faces,
    or None as long as nobody has asked for them.
    """

    def __init__(self, sites):
        self.rows = ascending(sites)
        self.links = linked(self.rows)
        self.lines = None
        self.parts = None

    def __eq__(self, other):
        return isinstance(other, Subdivision) and self.rows == other.rows

    def sites(self):
        """The ascending list of the sites."""
        return list(self.rows)

    def edges(self):
        """The ascending list of the edges (a, b), a less than b."""
        if self.lines is None:
            self.lines = edges_of(self.rows, self.links)
        return list(self.lines)

    def faces(self):
        """The ascending list of the faces, each from its least corner, turning left."""
        return [list(face) for face in self.held_faces()]

    def held_faces(self):
        """What faces tells, as it is kept here."""
        if self.parts is None:
            self.parts = faces_of(self.rows, self.links)
        return self.parts

    def triangles(self):
        """The ascending list of the triangles that the faces are cut into."""
        return sorted([triangle for face in self.held_faces() for triangle in fans_of(face)])

    def neighbours(self, site):
        """The sites that are joined with one, turning left."""
        check_member(site, self.rows, "site")
        return [self.rows[at] for at in neighbours_of(self.links, self.rows.index(site))]

    def face_circle(self, face):
        """The centre and the squared radius of the circle of a face."""
        if not isinstance(face, list) or not all([is_site(corner) for corner in face]):
            raise InvalidBound("face")
        if face not in self.held_faces():
            raise InvalidBound("face")
        return circle_through(face[0], face[1], face[2])


def centres(sites, a, b):
    """The bounds (low, high) of the centres of circles through a and b without a site inside."""
    check_sites(sites)
    check_two(a, b, sites)
    between, left, right = beside(sites, a, b)
    if between is not None:
        return None
    low, high = lowest(right), lowest(left)
    low = None if low is None else fraction(-low[0], 2 * low[1])
    return (low, None if high is None else fraction(high[0], 2 * high[1]))


def beside(sites, a, b):
    """The least site between a and b, or None, and what is on the left and on the right of the way.

    These are lists of tuples (top, area, site), in the order of the sites: with (top, 2 * area)
    the centre of the circle through all three, told from the middle of a and b to their side.
    """
    ax, ay = a
    bx, by = b
    ux, uy = bx - ax, by - ay
    start = ux * ay - uy * ax
    between, left, right = None, [], []
    for site in sites:
        x, y = site
        area = ux * y - uy * x - start
        # The scalar product of the ways to a and b is below 0 between them.
        top = (x - ax) * (x - bx) + (y - ay) * (y - by)
        if area > 0:
            left.append((top, area, site))
        elif area < 0:
            right.append((top, -area, site))
        elif top < 0 and (between is None or site < between):
            between = site
    return (between, left, right)


def lowest(shares):
    """The first one of the tuples (top, area, site) with the least top / area, or None."""
    least = None
    for share in shares:
        if least is None or share[0] * least[1] < least[0] * share[1]:
            least = share
    return least


def avoided(sites, a, b):
    """The first paper against an edge between a and b, or None if there is one."""
    rows = ascending(sites)
    check_two(a, b, rows)
    between, left, right = beside(rows, a, b)
    if between is not None:
        return (between,)
    high = lowest(left)
    if high is None:
        return None
    # Two sites on both sides leave no room for a centre if their tops make at most 0.
    top, area, _ = high
    for share in right:
        if share[0] * area + top * share[1] <= 0:
            return (share[2], first_against(left, share))
    return None


def first_against(shares, share):
    """The first site that leaves no room for a centre together with one on the other side."""
    top, area, _ = share
    return [site for one, other, site in shares if one * area + top * other <= 0][0]


def is_triangulation(sites, triangles):
    """Whether a value is a list of the triangles of a triangulation of the sites."""
    rows = ascending(sites)
    try:
        triangulation(rows, triangles)
    except InvalidTriangles:
        return False
    return True


def first_wrong(sites, triangles):
    """The least edge at which one circle has the third corner of the other side inside, or None."""
    mesh = triangulation(ascending(sites), triangles)
    return min(wrong_in(mesh), default=None)
