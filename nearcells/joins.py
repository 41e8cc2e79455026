"""Sites, or other things, that are joined one by one, and what that makes of them."""


def leader(leads, one):
    """The one that stands for all that one is joined with."""
    while leads[one] != one:
        # The way gets shorter each time it is gone.
        leads[one] = leads[leads[one]]
        one = leads[one]
    return one


def join(leads, a, b):
    """Join two; returns whether they were not joined before."""
    # As leader tells it: calls of their own would take much longer.
    while leads[a] != a:
        leads[a] = leads[leads[a]]
        a = leads[a]
    while leads[b] != b:
        leads[b] = leads[leads[b]]
        b = leads[b]
    leads[a] = b
    return a != b


def alone(rows):
    """What leader and join take, before any two are joined."""
    return {one: one for one in rows}


def determinant(matrix):
    """The determinant of a symmetric matrix with leading determinants above 0.

    matrix is a list of dicts, one for each row, with its entries that are not 0.
    """
    rows = [dict(row) for row in matrix]
    # Without fractions: each entry is a determinant of entries of the matrix. A row that is
    # not changed for some steps is only multiplied by what the leading determinant is now,
    # over what it was when the row was last changed.
    old = [1 for _ in rows]
    now = 1
    for at in range(len(rows)):
        first = {k: rows[at][k] * now // old[at] for k in rows[at] if k >= at}
        for other in first:
            if other > at:
                row = {k: rows[other][k] * now // old[other] for k in rows[other] if k >= at}
                rows[other] = less(row, first, at, now)
                old[other] = first[at]
        now = first[at]
    return now


def less(row, first, at, now):
    """A row behind the step that takes away its entry in a column."""
    told = {}
    for k in list(row) + [k for k in first if k not in row]:
        if k > at:
            told[k] = (first[at] * row.get(k, 0) - row[at] * first.get(k, 0)) // now
    return told
