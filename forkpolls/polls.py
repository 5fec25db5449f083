"""Polls: what events make of the marks of voters and of the totals of options."""

from forkpolls.checks import is_sequence
from forkpolls.errors import InvalidEvent
from forkpolls.events import FORMS, Course, moves_of
from forkpolls.running import Running


class Played:
    """What has become of a poll behind its events."""

    def __init__(self, running):
        tally = running.tally
        options = range(len(tally.totals))
        self.poll = tuple(tally.options_in())
        self.marks = tuple([_of_each(standings, 0) for standings in tally.standings])
        self.known = tuple([_of_each(standings, 1) for standings in tally.standings])
        self.totals = tuple(tally.totals)
        self.counts = tuple([tally.counted_at(option) for option in options])
        self.now = tuple(tally.met_now())
        self.met = tuple(sorted(list(running.met)))


def play(book, voters, options, events):
    """Return what becomes of a poll by a book."""
    if not is_sequence(events):
        raise InvalidEvent(0)
    running = Running(book, voters, options)
    for event in events:
        running.take(event)
    return Played(running)


def depths(voters, options, events):
    """Return for each voter the depths of all options."""
    deep = [[0] * options for _ in range(voters)]
    for _, voter, ways in moves_of(Course(voters, options), events, list(FORMS)):
        for at in range(voters):
            if voter in (None, at):
                _deepen(deep[at], ways)
    return tuple([tuple(row) for row in deep])


def _of_each(standings, at):
    """Return an item of each voter's standing; None for an option that ended."""
    if standings is None:
        return None
    return tuple([standing[at] for standing in standings])


def _deepen(row, ways):
    """Make the options deeper for one voter by one move."""
    behind = [(option, 1 + max([row[source] for source in sources])) for sources, option in ways]
    for option, deeper in behind:
        if option == len(row):
            row.append(deeper)
        else:
            row[option] = deeper
