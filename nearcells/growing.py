"""Sites that are put in one by one, in any order, and the edges that go and come with each."""

from nearcells.links import settle, take_out
from nearcells.plane import turn


class Growing:
    """The sites so far, in the order in which they came, and triangles with empty circles.

    corners are the links of these triangles, without what is joined along the border, and flat
    are the edges between two with one circle. after has for each site on the border the next
    one turning left, and ahead the one before it; both are empty while the sites are in a row.
    """

    def __init__(self):
        self.rows = []
        self.corners = []
        self.flat = {}
        self.after = {}
        self.ahead = {}

    def put(self, site):
        """Put a site in; returns the edges that go, as numbers, and the numbers it is joined with."""
        at = len(self.rows)
        self.rows.append(site)
        self.corners.append({})
        if not self.after:
            return self.put_beside_row(at)
        a, b, on = self.side_before(site)
        if b not in self.corners[a]:
            gone, sides = [], self.open_border(at, b, a)
        elif on is None:
            c = self.corners[a][b]
            gone, sides = [], [(a, b), (b, c), (c, a)]
        else:
            gone, sides = self.open_side(at, *on)
        self.add_triangles(at, sides)
        gone.extend(settle(self.rows, self.corners, self.flat, at, sides))
        joined = list(self.corners[at])
        if at in self.ahead:
            joined.append(self.ahead[at])
        return (gone, joined)

    def put_beside_row(self, at):
        """What put does for a further site as long as those before it are in a row."""
        rows = self.rows
        order = [number for _, number in sorted([(row, k) for k, row in enumerate(rows[:at])])]
        area = turn(rows[order[0]], rows[order[-1]], rows[at]) if at > 1 else 0
        if area == 0:
            less = [k for k in order if rows[k] < rows[at]][-1:]
            more = [k for k in order if rows[k] > rows[at]][:1]
            return ([(less[0], more[0])] if less and more else [], less + more)
        ways = order if area > 0 else order[::-1]
        self.add_triangles(at, list(zip(ways, ways[1:])))
        for a, b in zip(ways + [at], ways[1:] + [at, ways[0]]):
            self.after[a], self.ahead[b] = b, a
        return ([], order)

    def add_triangles(self, at, sides):
        """Make a triangle of each side, from a to b with a site on its left, and this site."""
        corners = self.corners
        for a, b in sides:
            corners[a][b], corners[b][at], corners[at][a] = at, a, b

    def side_before(self, site):
        """The tuple (a, b, on) of a side (a, b) of the triangle in which a site is, or of the border.

        The site is on its left. A side of the border has no triangle there, and the site is not
        on its line. on is None, or the side of the triangle on which the site is.
        """
        rows, corners = self.rows, self.corners
        a = len(rows) - 2
        b = list(corners[a])[0]
        area = turn(rows[a], rows[b], site)
        on = (a, b) if area == 0 else None
        if area < 0:
            a, b = b, a
        while b in corners[a]:
            c = corners[a][b]
            area = turn(rows[b], rows[c], site)
            other = turn(rows[c], rows[a], site)
            if area < 0:
                a, b, on = c, b, None
            elif other < 0:
                b, on = c, None
            elif area == 0:
                return (a, b, (b, c))
            else:
                return (a, b, (c, a) if other == 0 else on)
        return (a, b, None)

    def open_side(self, at, a, b):
        """Take away the side of a triangle on which a site is; returns it, and what is around it."""
        c = self.corners[a].pop(b)
        sides = [(b, c), (c, a)]
        if a in self.corners[b]:
            d = self.corners[b].pop(a)
            sides.extend([(a, d), (d, b)])
        else:
            self.put_on_border(at, a, b)
        return ([] if take_out(self.flat, a, b) else [(a, b)], sides)

    def put_on_border(self, at, a, b):
        """Put a site on the border, turning left from a to b."""
        self.after[a], self.after[at] = at, b
        self.ahead[at], self.ahead[b] = a, at

    def open_border(self, at, a, b):
        """The sides of the border that a site sees from outside, among them that from a to b."""
        rows, after, ahead = self.rows, self.after, self.ahead
        sides = [(b, a)]
        while turn(rows[b], rows[after[b]], rows[at]) < 0:
            sides.append((after[b], b))
            b = after[b]
        while turn(rows[ahead[a]], rows[a], rows[at]) < 0:
            sides.append((a, ahead[a]))
            a = ahead[a]
        self.put_on_border(at, a, b)
        return sides
