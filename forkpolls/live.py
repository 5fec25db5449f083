"""Live polls: they go on, and what was done can be taken back."""

from forkpolls.checks import is_sequence
from forkpolls.errors import InvalidEvent, Refused
from forkpolls.polls import Played
from forkpolls.running import Running


class Live:
    """A poll that goes on by a book that can be changed."""

    def __init__(self, book, voters, options):
        self._voters = voters
        self._options = options
        # A running poll never changes once it stands here, or among the past ones.
        self._running = Running(book, voters, options)
        self._past = ()

    def __len__(self):
        return len(self._past)

    @property
    def book(self):
        """The book by which the events happen."""
        return self._running.rulebook

    @book.setter
    def book(self, value):
        self.change(value)

    @property
    def events(self):
        """All events that were done and not taken back."""
        return tuple(self._running.done)

    @property
    def played(self):
        """What `play` returns for the events."""
        return Played(self._running)

    def do(self, event):
        """Do an event and return the totals of the options in the poll."""
        running = self._running.copied()
        running.take(event)
        self._go_on(running)
        return running.totals_in()

    def several(self, events):
        """Do all events, or none, and return what each returned."""
        running = self._running.copied()
        if not is_sequence(events):
            raise Refused(0) from InvalidEvent(len(running.done))
        told = []
        for at, event in enumerate(events):
            try:
                running.take(event)
            except InvalidEvent as wrong:
                raise Refused(at) from wrong
            told.append(running.totals_in())
        self._go_on(running)
        return tuple(told)

    def change(self, book):
        """Let the same events happen by another book."""
        running = Running(book, self._voters, self._options)
        for event in self._running.done:
            running.take(event)
        self._go_on(running)

    def undo(self):
        """Take back what was done last and return whether there was something."""
        if len(self._past) == 0:
            return False
        self._running = self._past[-1]
        self._past = self._past[:-1]
        return True

    def trial(self):
        """Return a context manager behind which all is as it was when it was entered."""
        return Trial(self)

    def within(self, work):
        """Return what the work returns for this poll, and leave the poll as it was."""
        with self.trial() as live:
            return work(live)

    def _go_on(self, running):
        """Stand at another running poll, from which there is a way back."""
        self._past = (*self._past, self._running)
        self._running = running


class Trial:
    """A block at whose end a live poll is as it was at its beginning."""

    def __init__(self, live):
        self._live = live
        self._entered = False
        self._running = None
        self._past = None

    def __enter__(self):
        if self._entered:
            raise RuntimeError("a trial is entered once")
        self._entered = True
        self._running = self._live._running
        self._past = self._live._past
        return self._live

    def __exit__(self, kind, value, trace):
        live = self._live
        live._running = self._running
        live._past = self._past
