"""Desks: a book and a live poll, led by commands."""

from forkpolls.books import Book
from forkpolls.checks import FAULTS, is_number_word
from forkpolls.deciding import depth, faults
from forkpolls.errors import InvalidCommand
from forkpolls.live import Live

# How many words stand behind the first one; None for at least one.
FORMS = {"book": None, "begin": 2, "do": None, "mark": 2, "faults": 0, "depth": 1, "undo": 0}

OF_NUMBERS = ("begin", "mark")

OF_LIVE = ("do", "mark", "undo")

MOST_VOTERS = 4

MOST_OPTIONS = 6


class Desk:
    """Keeps a book and a live poll, and does commands."""

    def __init__(self):
        self.kept_book = None
        self.live = None

    def say(self, command):
        """Do a command and return its result."""
        kind, words = _parsed(command)
        if not self._can_do(kind):
            raise InvalidCommand()
        if kind == "book":
            return self._keep(" ".join(words))
        if kind == "begin":
            return self._begin(int(words[0]), int(words[1]))
        if kind == "do":
            return self._do(" ".join(words))
        if kind == "mark":
            return self._mark(int(words[0]), int(words[1]))
        if kind == "faults":
            return " ".join(faults(self.kept_book)) or "never"
        if kind == "depth":
            least = depth(self.kept_book, words[0])
            return "never" if least is None else str(least)
        return "undone" if self.live.undo() else "nothing"

    def _can_do(self, kind):
        """Return whether there is what a command of this kind takes."""
        if kind in OF_LIVE:
            return self.live is not None
        return kind == "book" or self.kept_book is not None

    def _keep(self, text):
        """Keep the book with a text, and return how many rows it has."""
        read = Book.read(text.replace(" ; ", "\n"))
        if self.live is not None:
            self.live.change(read)
        self.kept_book = read
        return str(len(read))

    def _begin(self, voters, options):
        """Begin a new live poll."""
        self.live = Live(self.kept_book, voters, options)
        return "begun"

    def _do(self, event):
        """Do an event, and return all options in the poll with their totals."""
        totals = self.live.do(event)
        told = [f"{option}={total}" for option, total in zip(self.live.played.poll, totals)]
        return " ".join(told) or "-"

    def _mark(self, voter, option):
        """Return the mark of a voter at an option in the poll."""
        played = self.live.played
        if option not in played.poll or voter >= len(played.marks[option]):
            raise InvalidCommand()
        return played.marks[option][voter]


def _parsed(command):
    """Return the first word of a command and the others; InvalidCommand if it has no form."""
    if not isinstance(command, str) or "\n" in command:
        raise InvalidCommand()
    kind, *words = command.split(" ")
    if "" in words or not _has_form(kind, words):
        raise InvalidCommand()
    return kind, words


def _has_form(kind, words):
    """Return whether these words can stand behind the first one."""
    if kind not in FORMS:
        return False
    if FORMS[kind] is None:
        return len(words) > 0
    if FORMS[kind] != len(words):
        return False
    if kind in OF_NUMBERS and not all([is_number_word(word) for word in words]):
        return False
    if kind == "begin":
        return 1 <= int(words[0]) <= MOST_VOTERS and 1 <= int(words[1]) <= MOST_OPTIONS
    return kind != "depth" or words[0] in FAULTS
