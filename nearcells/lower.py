"""The lower hull of weighted sites: of their spots, lifted to the heights x * x + y * y - w.

Its corners are the seen sites, and its edges and faces are told by their spots.
"""

from nearcells.outline import corners_of, is_row
from nearcells.plane import turn


def height(item):
    """The height above the spot of a weighted site."""
    x, y, w = item
    return x * x + y * y - w


def lifted(rows):
    """The tuples (x, y, height) of ascending weighted sites."""
    return [(item[0], item[1], height(item)) for item in rows]


def spots_of(points):
    """The spots of points or weighted sites, in their order."""
    return [(x, y) for x, y, _ in points]


def rise_over(a, b, c):
    """How far c is above the way through a and b, times the square of its length.

    What is beside the way is looked at where it is nearest to it.
    """
    u, v = b[0] - a[0], b[1] - a[1]
    scalar = u * (c[0] - a[0]) + v * (c[1] - a[1])
    return (u * u + v * v) * (c[2] - a[2]) - scalar * (b[2] - a[2])


def lower_chain(points):
    """Of ascending points above a row of spots, the corners of what is below them."""
    chain = []
    for point in points:
        while len(chain) > 1 and rise_over(chain[-2], point, chain[-1]) >= 0:
            chain.pop()
        chain.append(point)
    return chain


def outer_ways(points):
    """The edges of the lower hull above the border, as tuples of points, turning left."""
    corners = corners_of(spots_of(points))
    ways = []
    for a, b in zip(corners, corners[1:] + corners[:1]):
        on = [point for point in points if turn(a, b, point) == 0]
        chain = lower_chain(on if a < b else on[::-1])
        ways.extend(list(zip(chain, chain[1:])))
    return ways


def points_ahead(points, a, b):
    """The points on the plane through the way from a to b below which none is on its left."""
    ax, ay, ah = a
    ux, uy, uh = b[0] - ax, b[1] - ay, b[2] - ah
    # The plane is told by what is at right angles to it; there is none yet while r is 0.
    p, q, r = 0, 0, 0
    for px, py, ph in points:
        x, y, h = px - ax, py - ay, ph - ah
        area = ux * y - uy * x
        if area > 0 and (r == 0 or p * x + q * y + r * h < 0):
            p, q, r = uy * h - uh * y, uh * x - ux * h, area
    level = p * ax + q * ay + r * ah
    return [(x, y, h) for x, y, h in points if p * x + q * y + r * h == level]


def lower_faces(points):
    """The faces of the lower hull: tuples (corners, points), corners turning left as spots.

    points are all that are on the face, corners or not. Sites in a row have no faces.
    """
    if is_row(spots_of(points)):
        return []
    of_spot = {(point[0], point[1]): point for point in points}
    ahead = outer_ways(points)
    outer = {(a[:2], b[:2]): True for a, b in ahead}
    done, faces = {}, []
    while len(ahead) > 0:
        a, b = ahead.pop()
        if (a[:2], b[:2]) not in done:
            on = points_ahead(points, a, b)
            corners = corners_of(spots_of(on))
            faces.append((corners, on))
            for p, q in zip(corners, corners[1:] + corners[:1]):
                done[(p, q)] = True
                if (p, q) not in outer:
                    ahead.append((of_spot[q], of_spot[p]))
    return faces


def seen_spots(points, faces):
    """The spots of the seen sites, as a dict."""
    if len(faces) == 0:
        return {spot: True for spot in spots_of(lower_chain(points))}
    return {spot: True for corners, _ in faces for spot in corners}


def is_touching(points, faces, point):
    """Whether a point that is no corner is on the lower hull."""
    if len(faces) > 0:
        return any([point in on for _, on in faces])
    chain = lower_chain(points)
    return any([a < point < b and rise_over(a, b, point) == 0 for a, b in zip(chain, chain[1:])])
