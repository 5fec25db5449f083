"""The rows of a book: what becomes of a mark and of a total."""

from forkpolls.checks import is_integer, is_name, split_words
from forkpolls.errors import InvalidRow, InvalidText

KINDS = ("yes", "no", "late yes", "late no", "word", "strike", "back", "cut")

ADDED = {"-3": -3, "-2": -2, "-1": -1, "0": 0, "1": 1, "2": 2, "3": 3}


class Row:
    """What all rows have in common; only its subclasses are made."""

    def __init__(self, words):
        self.words = words

    def __eq__(self, other):
        return isinstance(other, Row) and str(self) == str(other)

    def __str__(self):
        return " ".join(self.words)

    @classmethod
    def read(cls, text):
        """Return the row with this text."""
        return _row_with_text(text)

    def named(self):
        """Return the marks that the row names."""
        # The first word is never a mark, although some kinds look like names.
        return tuple([word for word in self.words[1:] if is_name(word)])

    def fits(self, marks):
        """Return whether the row tells what becomes of these marks, in their order."""
        olds = self.words[1:self.words.index("to")]
        return all([old == "any" or old == mark for old, mark in zip(olds, marks)])


class Step(Row):
    """At this kind of step a mark becomes another one."""

    def __init__(self, kind, old, then, add):
        _refuse_wrong((
            ("kind", kind in KINDS),
            ("old", _is_mark_or(old, ("any",))),
            ("then", _is_mark_or(then, ("same",))),
            ("add", _is_added(add)),
        ))
        Row.__init__(self, (kind, old, "to", then, "by", str(add)))
        self.kind = kind
        self.old = old
        self.then = then
        self.add = add


class Join(Row):
    """Where two options are joined, their marks become one."""

    def __init__(self, here, there, then, add):
        _refuse_wrong((
            ("here", _is_mark_or(here, ("any",))),
            ("there", _is_mark_or(there, ("any",))),
            ("then", _is_mark_or(then, ("one", "other"))),
            ("add", _is_added(add)),
        ))
        Row.__init__(self, ("join", here, there, "to", then, "by", str(add)))
        self.here = here
        self.there = there
        self.then = then
        self.add = add


class Part(Row):
    """Where an option is parted, its mark becomes two."""

    def __init__(self, old, left, right, add, more):
        _refuse_wrong((
            ("old", _is_mark_or(old, ("any",))),
            ("left", _is_mark_or(left, ("same",))),
            ("right", _is_mark_or(right, ("same",))),
            ("add", _is_added(add)),
            ("more", _is_added(more)),
        ))
        Row.__init__(self, ("part", old, "to", left, right, "by", str(add), str(more)))
        self.old = old
        self.left = left
        self.right = right
        self.add = add
        self.more = more


def _refuse_wrong(judged):
    """Raise InvalidRow for the first argument that is judged wrong."""
    for word, right in judged:
        if not right:
            raise InvalidRow(word)


def _is_mark_or(value, words):
    """Return whether the value is a name or one of the words."""
    return is_name(value) or value in words


def _is_added(value):
    """Return whether the value can be added to a total."""
    return is_integer(value) and -3 <= value <= 3


def _row_with_text(text):
    """Return the row with this text; InvalidText(0) if there is none."""
    if not isinstance(text, str):
        raise InvalidText(0)
    try:
        row = _row_of_words(split_words(text))
    except InvalidRow:
        raise InvalidText(0) from None
    # The words beside the arguments are compared here, all at once.
    if str(row) != text:
        raise InvalidText(0)
    return row


def _row_of_words(words):
    """Return the row whose arguments stand at their places among the words."""
    # Rows of different classes have different numbers of words.
    if len(words) == 6:
        return Step(words[0], words[1], words[3], ADDED.get(words[5]))
    if len(words) == 7:
        return Join(words[1], words[2], words[4], ADDED.get(words[6]))
    if len(words) == 8:
        return Part(words[1], words[3], words[4], ADDED.get(words[6]), ADDED.get(words[7]))
    raise InvalidText(0)
