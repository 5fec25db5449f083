"""Tables: what the rows of a book tell of each mark, looked up once for all."""

from forkpolls.rows import KINDS


def rows_of(rows, kind):
    """Return the rows of one kind: one of steps, `join` or `part`."""
    return [row for row in rows if row.words[0] == kind]


def all_steps(marks, rows):
    """Return for each kind of step a table of the steps."""
    return {kind: step_table(marks, rows_of(rows, kind)) for kind in KINDS}


def step_table(marks, rows):
    """Return the pair (mark, add) behind each mark, by rows of one kind of step."""
    told = {mark: (mark, 0) for mark in marks}
    # The first row that fits tells what is done, so it is entered last.
    for row in reversed(list(rows)):
        for mark in _fitting(row.old, marks):
            told[mark] = _or_same(row.then, mark), row.add
    return told


def join_table(marks, rows):
    """Return the pair (mark, add) behind each pair of marks, by rows of joinings."""
    told = {(here, there): (here, 0) for here in marks for there in marks}
    for row in reversed(list(rows)):
        for here in _fitting(row.here, marks):
            for there in _fitting(row.there, marks):
                told[(here, there)] = _of_both(row.then, here, there), row.add
    return told


def part_table(marks, blank, rows):
    """Return the quadruple (left, right, add, more) behind each mark, by rows of partings."""
    told = {mark: (mark, blank, 0, 0) for mark in marks}
    for row in reversed(list(rows)):
        for mark in _fitting(row.old, marks):
            told[mark] = _or_same(row.left, mark), _or_same(row.right, mark), row.add, row.more
    return told


def _fitting(pattern, marks):
    """Return the marks for which a row with this pattern tells what becomes of them."""
    return marks if pattern == "any" else (pattern,)


def _or_same(then, mark):
    """Return the mark that a row tells by a name or by `same`."""
    return mark if then == "same" else then


def _of_both(then, here, there):
    """Return the mark that a row tells by a name, by `one` or by `other`."""
    if then == "one":
        return here
    if then == "other":
        return there
    return then
