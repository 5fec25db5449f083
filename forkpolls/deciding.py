"""Deciding about a book for all polls, voters, edits and deeds."""

from forkpolls.books import row_at_join, row_at_part, row_at_step
from forkpolls.checks import FAULTS, is_place
from forkpolls.errors import InvalidFault, NoRow
from forkpolls.leaps import Reach, are_side_by_side
from forkpolls.rules import Rules
from forkpolls.stories import story_of


def standings(book):
    """Return all standings that come about, with their least depths."""
    least = Reach(Rules(book)).depths
    return tuple(sorted([(standing, least[standing]) for standing in least]))


def happens(book, fault):
    """Return whether some poll meets the fault."""
    return depth(book, fault) is not None


def faults(book):
    """Return the faults that happen."""
    reach = Reach(Rules(book))
    return tuple([fault for fault in FAULTS if _least_meeting(reach, fault) is not None])


def depth(book, fault):
    """Return the least depth of an option at which the fault is met, or None."""
    refuse_other_faults((fault,))
    meeting = _least_meeting(Reach(Rules(book)), fault)
    return None if meeting is None else meeting[0]


def story(book, fault):
    """Return a story of least depth that meets the fault, or None."""
    refuse_other_faults((fault,))
    reach = Reach(Rules(book))
    meeting = _least_meeting(reach, fault)
    if meeting is None:
        return None
    _, brought, leap = meeting
    return story_of(reach.origins, brought, leap)


def comes(book, at):
    """Return whether a row is done in some story."""
    if not is_place(at, book.rows):
        raise NoRow(at)
    return any([_row_done(book, leap) == at for leap in Reach(Rules(book)).leaps])


def refuse_other_faults(values):
    """Raise InvalidFault if one of the values is no fault."""
    for value in values:
        if value not in FAULTS:
            raise InvalidFault()


def _least_meeting(reach, fault):
    """Return how a fault is met at the least depth; None if it never is.

    This is the depth, the standings to which options have to be brought, and the
    leap from these that meets it: None if they meet it side by side.
    """
    if fault == "side":
        return _least_clash(reach)
    for leap in reach.leaps:
        if leap.meets(reach.rules, fault):
            return reach.depth_behind(leap), leap.sources, leap
    return None


def _least_clash(reach):
    """Return how two options meet `side` at the least depth, or None."""
    # Those that are found first are the least deep ones, so the latter one's depth
    # is the greater one of both.
    found = []
    for there, deeper in reach.depths.items():
        for here in found:
            if are_side_by_side(here, there) and reach.rules.clash(here[0], there[0]):
                return deeper, (here, there), None
        found.append(there)
    return None


def _row_done(book, leap):
    """Return the number of the row that tells of a leap; None if none does."""
    marks = [standing[0] for standing in leap.sources]
    if leap.kind == "join":
        return row_at_join(book.rows, marks[0], marks[1])
    if leap.kind == "part":
        return row_at_part(book.rows, marks[0])
    return row_at_step(book.rows, leap.kind, marks[0])
