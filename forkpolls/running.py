"""Polls that go on by a book, event by event."""

from forkpolls.errors import InvalidEvent
from forkpolls.events import Course
from forkpolls.rules import Rules
from forkpolls.tallies import Tally


class Running:
    """A poll behind some events, and the faults that were met there at some moment."""

    def __init__(self, book, voters, options):
        self.rulebook = book
        self.course = Course(voters, options)
        self.tally = Tally(Rules(book), voters, options)
        self.done = []
        # At the beginning all marks are blank and alike, which meets no fault.
        self.met = {}

    def copied(self):
        """Return another poll that goes on from here."""
        twin = Running(self.rulebook, self.course.voters, 0)
        twin.course = self.course.copied()
        twin.tally = self.tally.copied()
        twin.done = list(self.done)
        twin.met = dict(self.met)
        return twin

    def totals_in(self):
        """Return the totals of the options in the poll."""
        return tuple([self.tally.totals[option] for option in self.tally.options_in()])

    def take(self, event):
        """Do an event; InvalidEvent with the number of events so far if it is wrong."""
        move = self.course.move(event)
        if move is None:
            raise InvalidEvent(len(self.done))
        self.tally.take(move)
        # A fault that was not met before is met where the move came to.
        for _, option in move[2]:
            for fault in self.tally.met_at(option):
                self.met[fault] = True
        self.done.append(event)
