"""Books: what becomes of votes, written in rows."""

from forkpolls.checks import all_differ, is_name, is_place, is_sequence
from forkpolls.errors import InvalidBook, InvalidText, NoMark, NoRow
from forkpolls.rows import Join, Part, Row, Step
from forkpolls.tables import all_steps, join_table, part_table, rows_of

EDITS = ("back", "cut", "join", "part", "word")

HEADS = ("marks", "counted", "keeps")


class Book:
    """Marks, which of them are counted, which edits keep the meaning, and rows."""

    def __init__(self, marks, counted, keeps, rows):
        _refuse_wrong(marks, counted, keeps, rows)
        self.marks = tuple(marks)
        self.counted = tuple([mark for mark in marks if mark in counted])
        self.keeps = tuple(sorted(keeps))
        self.rows = tuple(rows)
        self.blank = marks[0]
        # Books are asked for these far more often than they are made.
        self.worth = {mark: 1 if mark in counted else 0 for mark in marks}
        self.steps = all_steps(self.marks, rows)
        self.joins = join_table(self.marks, rows_of(rows, "join"))
        self.parts = part_table(self.marks, self.blank, rows_of(rows, "part"))

    def __eq__(self, other):
        return isinstance(other, Book) and str(self) == str(other)

    def __str__(self):
        return "\n".join(_lines(self))

    def __len__(self):
        return len(self.rows)

    def __getitem__(self, at):
        if not is_place(at, self.rows):
            raise NoRow(at)
        return self.rows[at]

    def __iter__(self):
        raise TypeError("a book is not iterable")

    @classmethod
    def read(cls, text):
        """Return the book with this text."""
        if not isinstance(text, str):
            raise InvalidText(0)
        lines = text.split("\n")
        heads = [_head(at, line) for at, line in enumerate(lines[:3])]
        if len(heads) < 3:
            raise InvalidText(len(heads))
        rows = [_row(at, line) for at, line in enumerate(lines) if at >= 3]
        return cls(heads[0], heads[1], heads[2], rows)

    def step(self, kind, mark):
        """Return what the mark becomes at this kind of step, and what is added."""
        _refuse_other_marks(self.marks, (mark,))
        told = self.steps.get(kind)
        return (mark, 0) if told is None else told[mark]

    def joined(self, here, there):
        """Return what two marks become at a joining, and what is added."""
        _refuse_other_marks(self.marks, (here, there))
        return self.joins[(here, there)]

    def parted(self, mark):
        """Return what the mark becomes left and right, and what is added to both."""
        _refuse_other_marks(self.marks, (mark,))
        return self.parts[mark]

    def without(self, at):
        """Return the book without the row with this number."""
        if not is_place(at, self.rows):
            raise NoRow(at)
        return Book(self.marks, self.counted, self.keeps, self.rows[:at] + self.rows[at + 1:])

    def asking(self, kinds):
        """Return the book that asks voters anew at these edits."""
        asked = sorted(set(kinds))
        keeps = [word for word in self.keeps if word not in asked]
        rows = [row for kind in asked for row in _asking_rows(self, kind)]
        return Book(self.marks, self.counted, keeps, [*rows, *self.rows])


def _refuse_wrong(marks, counted, keeps, rows):
    """Raise InvalidBook for the first argument that is wrong, then for a mark."""
    if not _are_marks(marks):
        raise InvalidBook("marks")
    if not _are_words_of(counted, marks[1:]):
        raise InvalidBook("counted")
    if not _are_words_of(keeps, EDITS):
        raise InvalidBook("keeps")
    if not is_sequence(rows) or not all([isinstance(row, Row) for row in rows]):
        raise InvalidBook("rows")
    if not all([mark in marks for row in rows for mark in row.named()]):
        raise InvalidBook("mark")


def _are_marks(value):
    """Return whether the value is a sequence of different names, at least one."""
    if not is_sequence(value) or not all([is_name(mark) for mark in value]):
        return False
    return len(value) > 0 and all_differ(value)


def _are_words_of(value, words):
    """Return whether the value is a sequence of some of the words, all different."""
    if not is_sequence(value) or not all([word in words for word in value]):
        return False
    return all_differ(value)


def _lines(book):
    """Return the lines of the book's text."""
    marks = " ".join(["marks", *book.marks])
    counted = " ".join(["counted", *book.counted])
    keeps = " ".join(["keeps", *book.keeps])
    return [marks, counted, keeps, *[str(row) for row in book.rows]]


def _head(at, line):
    """Return the words behind the first one of a heading line."""
    words = line.split(" ")
    if words[0] != HEADS[at] or not _can_stand(at, words[1:]):
        raise InvalidText(at)
    return words[1:]


def _can_stand(at, words):
    """Return whether the words can stand in the heading line with this number."""
    if at == 2:
        return all([word in EDITS for word in words])
    # Only the first line cannot be without names.
    return (at > 0 or len(words) > 0) and all([is_name(word) for word in words])


def _row(at, line):
    """Return the row that stands in the line with this number."""
    try:
        return Row.read(line)
    except InvalidText:
        raise InvalidText(at) from None


def _refuse_other_marks(marks, values):
    """Raise NoMark for the first value that is none of the marks."""
    for value in values:
        if value not in marks:
            raise NoMark(value)


def _asking_rows(book, kind):
    """Return the rows by which this kind of edit makes each mark the blank."""
    blank = book.blank
    taken = {mark: -book.worth[mark] for mark in book.marks}
    if kind == "join":
        pairs = [(here, there) for here in book.marks for there in book.marks]
        return [Join(here, there, blank, taken[here] + taken[there]) for here, there in pairs]
    if kind == "part":
        return [Part(mark, blank, blank, taken[mark], 0) for mark in book.marks]
    return [Step(kind, mark, blank, taken[mark]) for mark in book.marks]
