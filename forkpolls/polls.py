"""Polls: what events make of the marks of voters and of the totals of options."""

from forkpolls.events import moves_of
from forkpolls.rules import Rules
from forkpolls.tallies import Tally


class Played:
    """What has become of a poll behind its events."""

    def __init__(self, tally, met):
        options = range(len(tally.totals))
        self.poll = tuple(tally.options_in())
        self.marks = tuple([_of_each(standings, 0) for standings in tally.standings])
        self.known = tuple([_of_each(standings, 1) for standings in tally.standings])
        self.totals = tuple(tally.totals)
        self.counts = tuple([tally.counted_at(option) for option in options])
        self.now = tuple(tally.met_now())
        self.met = met


def play(book, voters, options, events):
    """Return what becomes of a poll by a book."""
    moves = moves_of(voters, options, events)
    tally = Tally(Rules(book), voters, options)
    met = {fault: True for fault, _ in tally.met_now()}
    for move in moves:
        tally.take(move)
        # A fault that was not met before is met where the move came to.
        for _, option in move[2]:
            for fault in tally.met_at(option):
                met[fault] = True
    return Played(tally, tuple(sorted(met)))


def depths(voters, options, events):
    """Return for each voter the depths of all options."""
    deep = [[0] * options for _ in range(voters)]
    for _, voter, ways in moves_of(voters, options, events):
        for at in range(voters):
            if voter in (None, at):
                _deepen(deep[at], ways)
    return tuple([tuple(row) for row in deep])


def _of_each(standings, at):
    """Return an item of each voter's standing; None for an option that ended."""
    if standings is None:
        return None
    return tuple([standing[at] for standing in standings])


def _deepen(row, ways):
    """Make the options deeper for one voter by one move."""
    behind = [(option, 1 + max([row[source] for source in sources])) for sources, option in ways]
    for option, deeper in behind:
        if option == len(row):
            row.append(deeper)
        else:
            row[option] = deeper
