"""Asking anew: at which edits voters have to be asked, and which rows do something."""

from forkpolls.books import EDITS
from forkpolls.deciding import faults, refuse_other_faults


def least_asks(book, wanted):
    """Return the least sets of edits at which asking anew bars all wanted faults."""
    refuse_other_faults(wanted)
    least = []
    for kinds in _sets_of_edits():
        if not any([_is_part(less, kinds) for less in least]) and _happening(book.asking(kinds), wanted) == []:
            least.append(kinds)
    return tuple(least)


def needless(book, wanted):
    """Return the rows without which, each alone, the same wanted faults happen."""
    refuse_other_faults(wanted)
    before = _happening(book, wanted)
    return tuple([at for at in range(len(book)) if _happening(book.without(at), wanted) == before])


def repairs(book, wanted):
    """Return the rows without which, each alone, no wanted fault happens."""
    refuse_other_faults(wanted)
    return tuple([at for at in range(len(book)) if _happening(book.without(at), wanted) == []])


def _happening(book, wanted):
    """Return those of the wanted faults that happen."""
    return [fault for fault in faults(book) if fault in wanted]


def _sets_of_edits():
    """Return all sets of edits, shorter ones first, then ascending."""
    sets = [()]
    for kind in EDITS:
        sets = [*sets, *[(*kinds, kind) for kinds in sets]]
    return [kinds for _, kinds in sorted([(len(kinds), kinds) for kinds in sets])]


def _is_part(less, kinds):
    """Return whether all of these kinds are among those."""
    return all([kind in kinds for kind in less])
