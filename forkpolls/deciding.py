"""Deciding about a book for all polls, voters, edits and deeds."""

from forkpolls.checks import FAULTS, is_place
from forkpolls.errors import InvalidFault, NoRow
from forkpolls.events import LATE_DEEDS
from forkpolls.looms import Loom
from forkpolls.stories import story_of_standing, story_of_way
from forkpolls.tables import rows_of
from forkpolls.webs import places_of

# The faults that are met by a step, and not by how voters stand behind it.
OF_STEPS = ("again", "apart")


def standings(book):
    """Return all standings that come about, with their least depths."""
    loom = Loom(book, FAULTS)
    web = loom.woven({})
    least = {}
    for deep, layer in enumerate(web.layers(0)):
        for place in places_of(layer & web.states):
            least[place] = deep
    # Places ascend as standings do.
    return tuple([(loom.standing(place), least[place]) for place in sorted(least)])


def happens(book, fault):
    """Return whether some poll meets the fault."""
    return depth(book, fault) is not None


def faults(book):
    """Return the faults that happen."""
    loom = Loom(book, FAULTS)
    reached = sum(loom.woven({}).layers(0))
    return tuple([fault for fault in FAULTS if (reached & loom.signs[fault]) != 0])


def depth(book, fault):
    """Return the least depth of an option at which the fault is met, or None."""
    refuse_other_faults((fault,))
    loom = Loom(book, (fault,))
    layers = loom.woven({}).layers(loom.signs[fault])
    if (layers[-1] & loom.signs[fault]) == 0:
        return None
    # What is met by how voters stand is noted behind the layer in which they do.
    return len(layers) - (1 if fault in OF_STEPS else 2)


def story(book, fault):
    """Return a story of least depth that meets the fault, or None."""
    refuse_other_faults((fault,))
    loom = Loom(book, FAULTS)
    if fault in OF_STEPS:
        return story_of_way(loom.woven({}), loom.signs[fault])
    return story_of_standing(loom.woven({}), loom.signs[fault])


def comes(book, at):
    """Return whether a row is done in some story."""
    if not is_place(at, book.rows):
        raise NoRow(at)
    row = book.rows[at]
    kind = row.words[0]
    ahead = rows_of(book.rows[:at], kind)
    return any([row.fits(case) and not any([one.fits(case) for one in ahead]) for case in _cases(book, kind)])


def refuse_other_faults(values):
    """Raise InvalidFault if one of the values is no fault."""
    for value in values:
        if value not in FAULTS:
            raise InvalidFault()


def _cases(book, kind):
    """Return the tuples of marks for which a row of this kind is asked in some story."""
    loom = Loom(book, ())
    web = loom.woven({})
    places = places_of(sum(web.layers(0)) & web.states)
    found = [loom.standing(place) for place in places]
    marks = {mark: True for mark, _, late in found if _can_come(kind, late)}
    if kind == "join":
        return [(here, there) for here in marks for there in marks]
    return [(mark,) for mark in marks]


def _can_come(kind, late):
    """Return whether steps of this kind come about where late deeds are such."""
    if kind in LATE_DEEDS:
        return late in ("kept", "broken")
    return (kind == "back") == (late == "gone")
