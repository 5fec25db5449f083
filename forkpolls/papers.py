"""Papers: standings by which anybody can check that a fault never happens."""

from forkpolls.deciding import happens, refuse_other_faults, standings
from forkpolls.leaps import are_side_by_side, leaps_with
from forkpolls.rules import Rules

LATES = ("", "kept", "broken", "gone")


def paper(book, fault):
    """Return a right paper for the fault; None if it happens."""
    if happens(book, fault):
        return None
    return tuple([standing for standing, _ in standings(book)])


def paper_holds(book, fault, value):
    """Return whether the value is a right paper for the fault."""
    refuse_other_faults((fault,))
    if not isinstance(value, tuple) or not all([_is_standing(book, one) for one in value]):
        return False
    rules = Rules(book)
    listed = sorted(set(value))
    if rules.start not in listed or _meet(rules, fault, listed):
        return False
    leaps = leaps_with(rules, listed, listed)
    return all([leap.behind in listed and not leap.meets(rules, fault) for leap in leaps])


def _is_standing(book, value):
    """Return whether the value is a standing by the marks of the book."""
    if not isinstance(value, tuple) or len(value) != 3:
        return False
    mark, known, late = value
    return mark in book.marks and isinstance(known, bool) and late in LATES


def _meet(rules, fault, listed):
    """Return whether a standing, or two of them side by side, meet the fault."""
    if any([rules.shows(fault, standing) for standing in listed]):
        return True
    pairs = [(here, there) for here in listed for there in listed if are_side_by_side(here, there)]
    return fault == "side" and any([rules.clash(here[0], there[0]) for here, there in pairs])
