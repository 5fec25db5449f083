"""How the voters of a poll stand at its options, the totals, and the faults there."""

from forkpolls.events import DEEDS

JUDGED_ALONE = ("false", "missed", "stuck")


class Tally:
    """The standings of all voters and the totals, by the numbers of the options.

    Both are None for an option that ended.
    """

    def __init__(self, rules, voters, options):
        self.rules = rules
        self.standings = []
        self.totals = []
        # The last move, as the fault `again` is judged by it.
        self.last = ("", None, ())
        # How many options in the poll have these marks: there are far fewer
        # different ones than options, and `side` is judged between them.
        self.crowd = {}
        for option in range(options):
            self._put(option, (rules.start,) * voters, 0)

    def copied(self):
        """Return another tally that goes on from here."""
        twin = Tally(self.rules, 0, 0)
        twin.standings = list(self.standings)
        twin.totals = list(self.totals)
        twin.last = self.last
        twin.crowd = {marks: self.crowd[marks] for marks in self.crowd}
        return twin

    def take(self, move):
        """Do a move, as a course told it."""
        kind, voter, ways = move
        if kind == "count":
            self._count_anew()
        behind = [self._behind(kind, voter, place, way[0]) for place, way in enumerate(ways)]
        for sources, _ in ways:
            for source in sources:
                self._put(source, None, None)
        for (_, option), (standings, total) in zip(ways, behind):
            self._put(option, standings, total)
        self.last = move

    def counted_at(self, option):
        """Return how many voters have counted marks at the option; None if it ended."""
        standings = self.standings[option]
        if standings is None:
            return None
        return sum([self.rules.worth[standing[0]] for standing in standings])

    def options_in(self):
        """Return the options in the poll."""
        return [option for option, standings in enumerate(self.standings) if _is_in(standings)]

    def met_at(self, option):
        """Return the faults that are met at the option."""
        standings = self.standings[option]
        met = []
        if self.totals[option] != self.counted_at(option):
            met.append("apart")
        if _is_in(standings):
            met.extend([fault for fault in JUDGED_ALONE if self._is_shown(fault, standings)])
            if self._is_again(option):
                met.append("again")
            if self._is_side(_marks(standings)):
                met.append("side")
        return met

    def met_now(self):
        """Return the pairs (fault, option) that are met, ascending."""
        return sorted([(fault, option) for option in range(len(self.totals)) for fault in self.met_at(option)])

    def _put(self, option, standings, total):
        """Let the voters stand so at the option, or at the next new one."""
        if option == len(self.totals):
            self.standings.append(None)
            self.totals.append(None)
        self._crowd_by(self.standings[option], -1)
        self._crowd_by(standings, 1)
        self.standings[option] = standings
        self.totals[option] = total

    def _crowd_by(self, standings, many):
        """Note that so many more options in the poll have these standings."""
        if _is_in(standings):
            marks = _marks(standings)
            self.crowd[marks] = self.crowd.get(marks, 0) + many

    def _count_anew(self):
        """Set the totals of all options in the poll to what counts there."""
        for option in self.options_in():
            self.totals[option] = self.counted_at(option)

    def _behind(self, kind, voter, place, sources):
        """Return the standings and the total of an option behind a move."""
        total = sum([self.totals[source] for source in sources])
        elder = self.standings[sources[0]]
        if kind == "join":
            other = self.standings[sources[1]]
            steps = [self.rules.behind_join(here, there) for here, there in zip(elder, other)]
        elif kind == "part":
            steps = [self.rules.behind_part(standing)[place] for standing in elder]
            # Only the left one takes over the total.
            total = total if place == 0 else 0
        else:
            steps = [self._step(kind, voter in (None, at), standing) for at, standing in enumerate(elder)]
        return tuple([standing for standing, _ in steps]), total + sum([add for _, add in steps])

    def _step(self, kind, concerned, standing):
        """Return the standing behind a step, and what is added, if it concerns the voter."""
        if not concerned:
            return standing, 0
        return self.rules.behind_step(kind, standing)

    def _is_shown(self, fault, standings):
        """Return whether some voter's standing meets the fault."""
        return any([self.rules.shows(fault, standing) for standing in standings])

    def _is_again(self, option):
        """Return whether the last move was a deed that should not be done to it twice."""
        kind, voter, ways = self.last
        if kind not in DEEDS or option not in [reached for _, reached in ways]:
            return False
        return self.rules.repeats(kind, self.standings[option][voter][0])

    def _is_side(self, marks):
        """Return whether some option in the poll clashes with one with these marks."""
        # Marks never clash with themselves, so the option itself can stay among them.
        return any([self._clash(marks, other) for other, many in self.crowd.items() if many > 0])

    def _clash(self, marks, other):
        """Return whether two options with these marks are unlike joined the other way."""
        return any([self.rules.clash(here, there) for here, there in zip(marks, other)])


def _is_in(standings):
    """Return whether an option with these standings is in the poll."""
    return standings is not None and standings[0][2] != "gone"


def _marks(standings):
    """Return the marks of all voters."""
    return tuple([standing[0] for standing in standings])
