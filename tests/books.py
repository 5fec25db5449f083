"""Books and small helpers that several tests use."""

from forkpolls.books import Book
from forkpolls.rows import Row

EDITS = ("back", "cut", "join", "part", "word")

FAULTS = ("again", "apart", "false", "missed", "side", "stuck")

LINES = (
    "marks none in", "counted in", "keeps back cut join part word", "yes none to in by 1", "no in to none by -1",
    "late yes none to in by 1", "late no in to none by -1", "join in in to one by -1", "join none any to other by 0",
    "part in to in in by 0 1",
)

GOOD = Book.read("\n".join(LINES))

# The book without the row `join none any to other by 0`.
POOR = Book.read("\n".join(LINES[:8] + LINES[9:]))


def book_of(*rows, marks="a b c", counted="b", keeps=""):
    """Return a book with these marks, words and rows, each written as in its text."""
    return Book(marks.split(), counted.split(), keeps.split(), [Row.read(row) for row in rows])
