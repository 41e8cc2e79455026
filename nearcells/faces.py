"""Faces: what the edges of the subdivision make of triangles with empty circles."""


def corners_before(mesh, edges):
    """For each side (a, b) of a face, going left, the corner of the face ahead of a."""
    joined = {(a, b): True for a, b in edges}
    before = {}
    for a, b in mesh:
        if (a, b) in joined or (b, a) in joined:
            corner = mesh[(a, b)]
            # What is no edge lies within the face: the next triangle has the face's next side.
            while (b, corner) not in joined and (corner, b) not in joined:
                corner = mesh[(corner, b)]
            before[(b, corner)] = a
    return before


def faces_of(before):
    """The ascending list of the faces, each from its least corner on, turning left."""
    faces = []
    for a, b in before:
        # A corner of a convex polygon that is less than both beside it is the least one.
        if a < b and a < before[(a, b)]:
            back = [a]
            corner = before[(a, b)]
            while corner != b:
                back.append(corner)
                corner = before[(corner, back[-2])]
            faces.append([a, b] + back[:0:-1])
    return sorted(faces)


def fans_of(face):
    """The triangles into which a face is cut from its least corner."""
    return [(face[0], a, b) for a, b in zip(face[1:], face[2:])]
