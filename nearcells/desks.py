"""Desks: sites that come, go and move, and what each deed changes."""

from nearcells.checks import MOST_SITES, check_site
from nearcells.errors import InvalidBound, InvalidCall
from nearcells.moves import changed_edges
from nearcells.subdivision import Subdivision

WORDS = {"put": 2, "take": 2, "move": 3}


class Held:
    """Ascending sites, perhaps none; their subdivision is made once somebody asks for it."""

    def __init__(self, rows):
        self.rows = rows
        self.sub = None

    def told_edges(self):
        """The ascending list of the edges."""
        return [] if len(self.rows) == 0 else self.looked_at().edges()

    def told_faces(self):
        """The ascending list of the faces."""
        return [] if len(self.rows) == 0 else self.looked_at().faces()

    def looked_at(self):
        """The subdivision of one site or more."""
        if self.sub is None:
            self.sub = Subdivision(self.rows)
        return self.sub


class Desk:
    """Sites, and the deeds that brought them there.

    now and then are the sites, and those ahead of the last change. done has the deeds that
    are not taken back, and undone those that may be done again, the next one last.
    """

    def __init__(self):
        self.now = Held([])
        self.then = self.now
        self.done = []
        self.undone = []

    def __eq__(self, other):
        return isinstance(other, Desk) and self.now.rows == other.now.rows

    def put(self, site):
        """Put a further site among the others."""
        check_site(site, "site")
        self.start(("put", site))

    def take(self, site):
        """Take a site away."""
        check_site(site, "site")
        self.start(("take", site))

    def move(self, site, other):
        """Take a site away, and put another one among those that are left."""
        check_site(site, "site")
        check_site(other, "other")
        self.start(("move", site, other))

    def start(self, deed):
        """Do a deed that was not done before, or raise InvalidCall."""
        gone, come = ends_of(deed)
        rows = self.now.rows
        if (gone is not None and gone not in rows) or (come is not None and come in rows):
            raise InvalidCall(deed)
        if gone is None and len(rows) == MOST_SITES:
            raise InvalidCall(deed)
        self.exchange(gone, come)
        self.done.append(deed)
        self.undone = []

    def exchange(self, gone, come):
        """Put one site in the place of another one, each of them perhaps None."""
        rows = [site for site in self.now.rows if site != gone]
        if come is not None:
            rows = sorted(rows + [come])
        now = self.then if self.then.rows == rows else Held(rows)
        self.then = self.now
        self.now = now

    def undo(self):
        """Take the last deed back; returns whether there was one."""
        if len(self.done) == 0:
            return False
        gone, come = ends_of(self.done[-1])
        self.exchange(come, gone)
        self.undone.append(self.done.pop())
        return True

    def redo(self):
        """Do the deed again that was taken back last; returns whether there was one."""
        if len(self.undone) == 0:
            return False
        gone, come = ends_of(self.undone[-1])
        self.exchange(gone, come)
        self.done.append(self.undone.pop())
        return True

    def sites(self):
        """The ascending list of the sites."""
        return list(self.now.rows)

    def edges(self):
        """The ascending list of the edges."""
        return self.now.told_edges()

    def faces(self):
        """The ascending list of the faces."""
        return self.now.told_faces()

    def changes(self):
        """What the last change changed: the edges that went and came, and the faces likewise."""
        edges = changed_edges(self.then.told_edges(), self.now.told_edges())
        return (*edges, *changed_faces(self.then.told_faces(), self.now.told_faces()))

    def deeds(self):
        """The list of the deeds that are not taken back."""
        return list(self.done)


def ends_of(deed):
    """The site that goes with a deed, and the one that comes, each of them perhaps None."""
    if deed[0] == "put":
        return (None, deed[1])
    if deed[0] == "take":
        return (deed[1], None)
    return (deed[1], deed[2])


def changed_faces(before, behind):
    """The ascending faces that are there before and not behind, and the other way around."""
    gone, come = changed_edges([tuple(face) for face in before], [tuple(face) for face in behind])
    return ([list(face) for face in gone], [list(face) for face in come])


def replay(deeds):
    """A new desk on which the deeds of a list are done."""
    if not isinstance(deeds, list) or not all([is_deed(deed) for deed in deeds]):
        raise InvalidBound("deeds")
    desk = Desk()
    for deed in deeds:
        if deed[0] == "put":
            desk.put(deed[1])
        elif deed[0] == "take":
            desk.take(deed[1])
        else:
            desk.move(deed[1], deed[2])
    return desk


def is_deed(value):
    """Whether a value is a tuple of a deed's word and as many values as it has sites."""
    if not isinstance(value, tuple) or len(value) == 0 or not isinstance(value[0], str):
        return False
    return value[0] in WORDS and WORDS[value[0]] == len(value)


def unlike(one, other):
    """The sites that only one desk has, those that only the other one has, and their edges likewise."""
    if not isinstance(one, Desk):
        raise InvalidBound("one")
    if not isinstance(other, Desk):
        raise InvalidBound("other")
    sites = changed_edges(one.sites(), other.sites())
    return (*sites, *changed_edges(one.edges(), other.edges()))
