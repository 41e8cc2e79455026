"""Triangles with empty circles, and the edges and faces that they make, by numbers of sites.

The links of ascending sites are a list with a dict for each of them. It has the numbers of all
sites that are joined with this one, each with that of the next one turning left, or -1 if there
is no face between both. So links[a][b] is, of the face on the left of the way from a to b, the
corner ahead of a. While all faces are triangles, a, b and links[a][b] are one that turns left.
"""

from nearcells.mesh import mesh_of


def linked(rows):
    """The links of ascending sites."""
    links = [{} for _ in rows]
    flat, low, high = {}, [0], [0]
    for at in range(1, len(rows)):
        x, y = rows[at]
        near, ahead = links[at], []
        # What a site sees of the border before it lies about the last site.
        b = low[-1]
        bx, by = rows[b]
        while len(low) > 1:
            a = low[-2]
            ax, ay = rows[a]
            if (bx - ax) * (y - ay) >= (by - ay) * (x - ax):
                break
            low.pop()
            links[a][at], near[b], links[b][a] = b, a, at
            ahead.append((b, a))
            b, bx, by = a, ax, ay
        low.append(at)
        b = high[-1]
        bx, by = rows[b]
        while len(high) > 1:
            a = high[-2]
            ax, ay = rows[a]
            if (bx - ax) * (y - ay) <= (by - ay) * (x - ax):
                break
            high.pop()
            links[b][at], near[a], links[a][b] = a, b, at
            ahead.append((a, b))
            b, bx, by = a, ax, ay
        high.append(at)
        settle(rows, links, flat, at, ahead)
    merge(links, flat)
    enclose(links, low, high)
    return links


def settle(rows, links, flat, at, ahead):
    """Flip sides of the triangles with a corner at, until no circle has this corner inside.

    ahead are the sides (a, b), with at on the left, that are looked at. flat gets those with
    both third corners on one circle. Returns the edges that are not edges any more.
    """
    x, y = rows[at]
    gone = []
    while ahead:
        a, b = ahead.pop()
        of_b = links[b]
        if a not in of_b:
            continue
        c = of_b[a]
        ax, ay = rows[a]
        bx, by = rows[b]
        cx, cy = rows[c]
        ux, uy, vx, vy = ax - x, ay - y, bx - x, by - y
        px, py, qx, qy = ax - cx, ay - cy, bx - cx, by - cy
        one, other = ux * vx + uy * vy, px * qx + py * qy
        # The angles at both third corners tell it: are they more than two right ones?
        if one <= 0 or other <= 0:
            room = one * (qx * py - qy * px) + other * (ux * vy - uy * vx)
            if room == 0:
                flat[(a, b)] = True
                gone.append((a, b))
            elif room < 0:
                turn_over(links, a, b, c, at)
                ahead.append((a, c))
                ahead.append((c, b))
                if not flat or not take_out(flat, a, b):
                    gone.append((a, b))
    return gone


def turn_over(links, a, b, c, at):
    """Exchange the edge (a, b), at on its left and c on its right, for the one between these."""
    of_a, of_b, of_c, near = links[a], links[b], links[c], links[at]
    del of_a[b], of_b[a]
    near[a], of_a[c], of_c[at] = c, at, a
    near[c], of_c[b], of_b[at] = b, at, c


def take_out(flat, a, b):
    """Take an edge out of those that are flat; returns whether it was one."""
    return flat.pop((a, b), False) or flat.pop((b, a), False)


def merge(links, flat):
    """Make one face of all triangles beside flat edges."""
    for ends in flat:
        for a, b in (ends, ends[::-1]):
            of_a = links[a]
            before = [c for c in of_a if of_a[c] == b]
            of_a[before[0]] = of_a.pop(b)


def enclose(links, low, high):
    """Put in what is joined along the border, whose ways from the least site to the last are told."""
    for a, b in zip(low, low[1:]):
        links[b][a] = -1
    for a, b in zip(high, high[1:]):
        links[a][b] = -1


def edges_of(rows, links):
    """The edges (a, b), a less than b, of ascending sites, ascending."""
    return [(rows[a], rows[b]) for a, of_a in enumerate(links) for b in sorted(of_a) if b > a]


def faces_of(rows, links):
    """The faces, each one the list of its corners turning left from the least one on, ascending."""
    faces = []
    for a, of_a in enumerate(links):
        for b in sorted(of_a):
            c = of_a[b]
            # A corner of a convex polygon that is less than both beside it is the least one.
            if b > a and c > a:
                if links[c][a] == b:
                    faces.append([rows[a], rows[b], rows[c]])
                else:
                    faces.append([rows[k] for k in rim_of(links, a, b)])
    return faces


def rim_of(links, a, b):
    """The numbers of the corners of the face on the left of the way from a to b."""
    back = [a]
    ahead, here = a, links[a][b]
    while here != b:
        back.append(here)
        ahead, here = here, links[here][ahead]
    return [a, b] + back[:0:-1]


def neighbours_of(links, a):
    """The numbers of the sites that are joined with one, as neighbours tells them."""
    of_a = links[a]
    if max(of_a.values(), default=-1) < 0:
        return sorted(of_a)
    first = min(of_a)
    for b in of_a:
        # On the border the first one is the next one on it: no face is on its right.
        if links[b][a] < 0:
            first = b
    told = [first]
    while len(told) < len(of_a):
        told.append(of_a[told[-1]])
    return told


def fans_of(face):
    """The triangles into which a face is cut from its least corner."""
    return [(face[0], a, b) for a, b in zip(face[1:], face[2:])]


def links_of(rows, mesh, flat):
    """The links of ascending sites for a mesh of them, as mesh.mesh_of makes it.

    flat are the edges between triangles that are left out of it.
    """
    number = {site: at for at, site in enumerate(rows)}
    links = [{} for _ in rows]
    for (a, b), c in mesh.items():
        links[number[a]][number[b]] = number[c]
        if (b, a) not in mesh:
            links[number[b]][number[a]] = -1
    merge(links, [(number[a], number[b]) for a, b in flat])
    return links


def empty_mesh(rows):
    """A triangulation of ascending sites whose circles are empty, as a mesh."""
    return mesh_of([triangle for face in faces_of(rows, linked(rows)) for triangle in fans_of(face)])
