"""Values for the tests: any values of the document, and some names."""

from forkpolls.books import Book
from forkpolls.errors import InvalidFault, InvalidRow, NoMark, NoRow, PollError
from forkpolls.rows import Join, Part, Step


def nested(value, deep):
    """Return the value in so many lists and tuples, one in the other."""
    for at in range(deep):
        value = [value] if at % 2 else (value,)
    return value


NAMES = ("a", "z", "in", "none", "abcd", "yes", "no", "late", "word", "back", "cut", "join", "part")

NO_NAMES = (
    "", " ", "any", "by", "one", "same", "to", "other", "abcde", "A", "In", "aB", "a1", "a b", " a", "a ", "a\n",
    "a-b", "a_b", "\xe9", "\u0430", "\xdf", "1", "0", "strike", "late yes", "marks", "{", "`",
)

OBJECTS = (
    Step("yes", "any", "same", 0), Join("a", "a", "one", 1), Part("a", "a", "a", 0, 0), Book(["a"], [], [], []),
    PollError(), InvalidRow("add"), InvalidFault(), NoRow(0), NoMark("a"),
)

NO_STRINGS = (
    None, True, False, 0, 1, -1, 2, 7, 10 ** 30, -10 ** 30, *OBJECTS, [], (), ["a"], ("a",), [["a"]], [None, 1], ("any",),
    ["yes"], nested("a", 8), nested((), 7), [OBJECTS[0], [OBJECTS[3]]],
)

NO_INTEGERS = (None, True, False, *OBJECTS, [], (), [0], (1,), "", "0", "1", "-1", "a", "add", nested(0, 8))

ANY_VALUES = (*NAMES, *NO_NAMES, *NO_STRINGS, -4, -3, 3, 4)
