"""Asking anew: at which edits voters have to be asked, and which rows do something."""

from forkpolls.books import EDITS
from forkpolls.deciding import refuse_other_faults
from forkpolls.looms import Loom


def least_asks(book, wanted):
    """Return the least sets of edits at which asking anew bars all wanted faults."""
    refuse_other_faults(wanted)
    loom = Loom(book, wanted)
    asked = {kind: loom.asked(kind) for kind in EDITS}
    sign = loom.sign(wanted)
    least = []
    for kinds in _sets_of_edits():
        if not any([_is_part(less, kinds) for less in least]):
            changed = {name: strand for kind in kinds for name, strand in asked[kind].items()}
            if not loom.woven(changed).meets(sign):
                least.append(kinds)
    return tuple(least)


def needless(book, wanted):
    """Return the rows without which, each alone, the same wanted faults happen."""
    refuse_other_faults(wanted)
    loom = Loom(book, wanted)
    sign = loom.sign(wanted)
    before = _met(loom.woven({}), sign)
    return tuple([at for at in range(len(book)) if _met(loom.woven(loom.without(at)), sign) == before])


def repairs(book, wanted):
    """Return the rows without which, each alone, no wanted fault happens."""
    refuse_other_faults(wanted)
    loom = Loom(book, wanted)
    sign = loom.sign(wanted)
    return tuple([at for at in range(len(book)) if not loom.woven(loom.without(at)).meets(sign)])


def _met(web, sign):
    """Return those of the signs that come about."""
    return sum(web.layers(0)) & sign


def _sets_of_edits():
    """Return all sets of edits, shorter ones first, then ascending."""
    sets = [()]
    for kind in EDITS:
        sets = [*sets, *[(*kinds, kind) for kinds in sets]]
    return [kinds for _, kinds in sorted([(len(kinds), kinds) for kinds in sets])]


def _is_part(less, kinds):
    """Return whether all of these kinds are among those."""
    return all([kind in kinds for kind in less])
