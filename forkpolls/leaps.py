"""Leaps: all single steps from standings and all joinings of two, and where they lead."""

from forkpolls.events import DEEDS, LATE_DEEDS


class Leap:
    """One step from a standing, or one joining of two, and the standing behind it."""

    def __init__(self, kind, sources, place, behind, apart):
        self.kind = kind
        self.sources = sources
        # Which one of the new options this is, as a parting makes two.
        self.place = place
        self.behind = behind
        # Whether the step lets a total part that was right ahead of it.
        self.apart = apart

    def meets(self, rules, fault):
        """Return whether the fault is met behind the leap; `side` takes two options."""
        if fault == "apart":
            return self.apart
        if fault == "again":
            return self.kind in DEEDS and rules.repeats(self.kind, self.behind[0])
        return rules.shows(fault, self.behind)


class Reach:
    """All standings that come about, found in layers."""

    def __init__(self, rules):
        self.rules = rules
        # By standings: the least depth, and a leap to it (None at the beginning).
        self.depths = {rules.start: 0}
        self.origins = {rules.start: None}
        # All leaps there are, those behind which an option is less deep first.
        self.leaps = []
        layer = [rules.start]
        while layer != []:
            leaps = leaps_with(rules, layer, list(self.depths))
            self.leaps.extend(leaps)
            layer = self._next_layer(leaps)

    def depth_behind(self, leap):
        """Return the depth of an option behind a leap from the least deep standings."""
        return 1 + max([self.depths[source] for source in leap.sources])

    def _next_layer(self, leaps):
        """Return the standings to which only these leaps lead, and keep them."""
        layer = []
        for leap in leaps:
            if leap.behind not in self.depths:
                self.depths[leap.behind] = self.depth_behind(leap)
                self.origins[leap.behind] = leap
                layer.append(leap.behind)
        return layer


def leaps_with(rules, layer, standings):
    """Return all leaps among standings that begin with one of a layer of them."""
    leaps = []
    for standing in layer:
        leaps.extend(_single_leaps(rules, standing))
    pairs = [(here, there) for here in standings for there in standings if here in layer or there in layer]
    # Single steps stand first, so that stories need few options.
    leaps.extend([_join_leap(rules, here, there) for here, there in pairs if are_side_by_side(here, there)])
    return leaps


def are_side_by_side(here, there):
    """Return whether options with these standings are both in the poll."""
    return here[2] != "gone" and there[2] != "gone"


def _single_leaps(rules, standing):
    """Return the leaps from one standing."""
    leaps = [_step_leap(rules, kind, standing) for kind in _kinds_at(standing[2])]
    if standing[2] != "gone":
        leaps.extend([_part_leap(rules, standing, place) for place in (0, 1)])
    return leaps


def _kinds_at(late):
    """Return the kinds of steps that can come about at a standing."""
    if late == "gone":
        return ["back"]
    kinds = ["yes", "no", "word", "cut", "strike"]
    return kinds if late == "" else [*kinds, *LATE_DEEDS]


def _step_leap(rules, kind, standing):
    """Return the leap by a step of this kind."""
    behind, add = rules.behind_step(kind, standing)
    due = rules.worth[behind[0]] - rules.worth[standing[0]]
    return Leap(kind, (standing,), 0, behind, add != due)


def _part_leap(rules, standing, place):
    """Return the leap to the left option (0) or to the right one (1) of a parting."""
    behind, add = rules.behind_part(standing)[place]
    # The right one takes over nothing, so all that counts there has to be added.
    taken = rules.worth[standing[0]] if place == 0 else 0
    return Leap("part", (standing,), place, behind, add != rules.worth[behind[0]] - taken)


def _join_leap(rules, here, there):
    """Return the leap by a joining of two."""
    behind, add = rules.behind_join(here, there)
    due = rules.worth[behind[0]] - rules.worth[here[0]] - rules.worth[there[0]]
    return Leap("join", (here, there), 0, behind, add != due)
