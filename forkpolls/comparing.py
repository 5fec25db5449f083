"""Comparing books: by which votes come to count alike, and which marks are twins."""

from forkpolls.rows import KINDS
from forkpolls.stories import story_of_standing
from forkpolls.webs import WEIGHTS, Web


class Pairs:
    """Makes the web of two books at once, where a hand is a mark by each of them."""

    def __init__(self, one, other):
        self.one = one
        self.other = other
        self.pairs = [(mark, twin) for mark in one.marks for twin in other.marks]
        self.bits = {pair: 1 << (4 * at) for at, pair in enumerate(self.pairs)}
        # The sign that by one book the mark is counted, and by the other one it is not.
        self.unlike = 1 << (4 * len(self.pairs))

    def woven(self):
        """Return the web of both books."""
        strands = {kind: self._step(kind) for kind in KINDS}
        strands["left"] = self._part(0)
        strands["right"] = self._part(1)
        strands["join"] = [self._join(here, there) for here, there in self.pairs]
        strands["shown"] = [self._shown(mark, twin) for mark, twin in self.pairs]
        return Web(self.bits[(self.one.blank, self.other.blank)], len(self.pairs), strands)

    def _step(self, kind):
        """Return the strand of a kind of step."""
        here = self.one.steps[kind]
        there = self.other.steps[kind]
        return [self.bits[(here[mark][0], there[twin][0])] * WEIGHTS[kind] for mark, twin in self.pairs]

    def _part(self, at):
        """Return the strand of the left options (0) or the right ones (1) of partings."""
        here = self.one.parts
        there = self.other.parts
        return [self.bits[(here[mark][at], there[twin][at])] * WEIGHTS["part"] for mark, twin in self.pairs]

    def _join(self, mark, twin):
        """Return the masks behind joinings of a pair of marks with each pair."""
        here = self.one.joins
        there = self.other.joins
        return [self.bits[(here[(mark, to)][0], there[(twin, other)][0])] * WEIGHTS["join"] for to, other in self.pairs]

    def _shown(self, mark, twin):
        """Return the sign if one of the marks is counted and the other one is not."""
        return 0 if self.one.worth[mark] == self.other.worth[twin] else self.unlike


def alike(p, q):
    """Return whether behind each story the same voters have counted marks by both books."""
    pairs = Pairs(p, q)
    return not pairs.woven().meets(pairs.unlike)


def parting(p, q):
    """Return a story of least depth behind which the books are not alike, or None."""
    pairs = Pairs(p, q)
    return story_of_standing(pairs.woven(), pairs.unlike)


def twins(book):
    """Return the coarsest parting of the marks into those that do the same."""
    parts = dict(book.worth)
    many = 0
    # Parts are only ever parted further, so they stay when there are no more of them.
    while len(_numbered(parts)) > many:
        many = len(_numbered(parts))
        ways = {mark: _ways_of(book, parts, mark) for mark in book.marks}
        numbers = _numbered(ways)
        parts = {mark: numbers[ways[mark]] for mark in book.marks}
    return tuple([tuple([mark for mark in book.marks if parts[mark] == part]) for part in range(many)])


def _numbered(told):
    """Return numbers for the different things that are told of marks, by their first marks."""
    numbers = {}
    for thing in told.values():
        numbers.setdefault(thing, len(numbers))
    return numbers


def _ways_of(book, parts, mark):
    """Return the parts of a mark and of all that becomes of it."""
    behind = [book.steps[kind][mark][0] for kind in KINDS]
    for other in book.marks:
        behind.extend([book.joins[(mark, other)][0], book.joins[(other, mark)][0]])
    behind.extend(book.parts[mark][:2])
    return tuple([parts[one] for one in [mark, *behind]])
