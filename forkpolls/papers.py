"""Papers: standings by which anybody can check that a fault never happens."""

from forkpolls.checks import FAULTS
from forkpolls.deciding import refuse_other_faults
from forkpolls.looms import Loom
from forkpolls.webs import LATES, places_of


def paper(book, fault):
    """Return a right paper for the fault; None if it happens."""
    refuse_other_faults((fault,))
    loom = Loom(book, FAULTS)
    web = loom.woven({})
    reached = sum(web.layers(0))
    if (reached & loom.signs[fault]) != 0:
        return None
    return tuple([loom.standing(place) for place in places_of(reached & web.states)])


def paper_holds(book, fault, value):
    """Return whether the value is a right paper for the fault."""
    refuse_other_faults((fault,))
    if not isinstance(value, tuple) or not all([_is_standing(book, one) for one in value]):
        return False
    loom = Loom(book, FAULTS)
    web = loom.woven({})
    held = 0
    for standing in value:
        held = held | (1 << loom.place(standing))
    # All that is behind has to be there, but for the signs of the other faults.
    missing = web.all_behind(held, []) & ~held & (web.states | loom.signs[fault])
    return (held & web.start) != 0 and missing == 0


def _is_standing(book, value):
    """Return whether the value is a standing by the marks of the book."""
    if not isinstance(value, tuple) or len(value) != 3:
        return False
    mark, known, late = value
    return mark in book.marks and isinstance(known, bool) and late in LATES
