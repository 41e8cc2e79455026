"""Whether amounts of some forms add up to nothing, and what tells it if not, in integers."""


def balance(forms):
    """Of linear forms, ("amounts", amounts) or ("heights", heights).

    forms are one list of integers or more, of one length. Amounts are integers from 0 on, not
    all 0, one for each form, with which the forms add up to 0. Heights are integers, one for
    each item of a form, for which each form is greater than 0. There is just one of both.
    """
    rows, basis = table_of(forms)
    least = 1
    while True:
        # The first column that is of use, and the first row that allows it: so it ends.
        column = first_above(rows[-1], len(forms))
        if column is None:
            break
        row = row_to_leave(rows, basis, column)
        rows, least = pivoted(rows, row, column, least)
        basis[row] = column
    goal, last = rows[-1], len(rows[-1]) - 1
    if goal[last] > 0:
        return ("heights", [-goal[at] - least for at in range(len(forms), last - 1)])
    amounts = [0 for _ in forms]
    for column, row in zip(basis, rows):
        if column < len(forms):
            amounts[column] = row[last]
    return ("amounts", amounts)


def table_of(forms):
    """The rows for amounts whose sum is 1, and the columns that are held at first.

    A row for each item of the forms, one for the sum of the amounts; in the columns the
    forms, a spare amount for each row, and what the row must be. The last row is the sum
    of all, which tells what the spare amounts are together.
    """
    many = len(forms[0]) + 1
    rows = []
    for at in range(many):
        row = [form[at] if at < many - 1 else 1 for form in forms]
        rows.append(row + [int(at == other) for other in range(many)] + [int(at == many - 1)])
    goal = [sum(column) for column in zip(*rows)]
    for other in range(many):
        goal[len(forms) + other] = 0
    return (rows + [goal], [len(forms) + at for at in range(many)])


def first_above(row, many):
    """The first one of so many columns in which a row is above 0, or None."""
    for column in range(many):
        if row[column] > 0:
            return column
    return None


def row_to_leave(rows, basis, column):
    """The row that limits a column most, of several the one that holds the first column."""
    best = None
    for at, held in enumerate(basis):
        row = rows[at]
        if row[column] > 0:
            if best is None:
                best = at
            else:
                room = row[-1] * rows[best][column] - rows[best][-1] * row[column]
                if room < 0 or (room == 0 and held < basis[best]):
                    best = at
    return best


def pivoted(rows, at, column, least):
    """The rows if another column is held in one of them, and what they are multiplied by then.

    least is what they are multiplied by before, so that they are integers.
    """
    held = rows[at]
    now = held[column]
    told = []
    for other, row in enumerate(rows):
        if other == at:
            told.append(row)
        else:
            # All entries are determinants, so nothing is left over.
            told.append([(one * now - row[column] * two) // least for one, two in zip(row, held)])
    return (told, now)
