"""Looms: they make the web of a book, also if it asked anew, or had one row less."""

from forkpolls.checks import FAULTS
from forkpolls.events import DEEDS, LATE_DEEDS
from forkpolls.rows import KINDS
from forkpolls.rules import stuck_marks
from forkpolls.tables import join_table, part_table, rows_of, step_table
from forkpolls.webs import BROKEN, KEPT, LATES, WEIGHTS, Web

# The faults for which it matters what is known.
OF_KNOWN = ("false", "missed")


class Loom:
    """Makes webs in which the signs of the wanted faults are right."""

    def __init__(self, book, wanted):
        knowing = any([fault in wanted for fault in OF_KNOWN])
        # What is known matters to these alone, and without it there are fewer standings.
        self.knows = (0, 1) if knowing else (0,)
        self.keeps = book.keeps if knowing else ()
        self.marks = tuple(sorted(book.marks))
        self.blank = book.blank
        self.worth = book.worth
        self.rows = book.rows
        self.steps = book.steps
        self.many = len(self.knows)
        self.hands = len(self.marks) * self.many
        # By marks: the bits of its hands, for options that were not edited.
        self.bits = {mark: self._bits_at(4 * self.many * at) for at, mark in enumerate(self.marks)}
        self.signs = {fault: 1 << (4 * self.hands + at) for at, fault in enumerate(FAULTS)}
        self.strands = self._all_strands(book)

    def woven(self, changed):
        """Return the web of the book with some strands changed."""
        start = self.bits[self.blank][0]
        return Web(start, self.hands, {**self.strands, **changed})

    def sign(self, wanted):
        """Return the signs of these faults."""
        return sum([self.signs[fault] for fault in FAULTS if fault in wanted])

    def place(self, standing):
        """Return the place of a standing."""
        mark, known, late = standing
        return 4 * (self.marks.index(mark) * self.many + (1 if known else 0)) + LATES.index(late)

    def standing(self, place):
        """Return the standing at a place."""
        hand = place >> 2
        return self.marks[hand // self.many], (hand & (self.many - 1)) == 1, LATES[place & 3]

    def asked(self, kind):
        """Return the strands that are changed if voters are asked anew at these edits."""
        told = [(self.blank, 0) for _ in self.marks]
        if kind == "join":
            row = [self.bits[self.blank][0] * BROKEN for _ in range(self.hands)]
            return {"join": [row for _ in range(self.hands)]}
        if kind == "part":
            strand = self._strand(told, self._none_known(), BROKEN)
            return {"left": strand, "right": strand}
        return {kind: self._strand(told, self._none_known(), _weight(kind, False))}

    def without(self, at):
        """Return the strands that are changed without a row."""
        kind = self.rows[at].words[0]
        rows = rows_of(self.rows[:at] + self.rows[at + 1:], kind)
        if kind == "join":
            return {"join": self._joins(join_table(self.marks, rows))}
        if kind == "part":
            return self._parts(part_table(self.marks, self.blank, rows))
        steps = {**self.steps, kind: step_table(self.marks, rows)}
        return {kind: self._step(kind, steps[kind]), "shown": self._shown(steps)}

    def _bits_at(self, first):
        """Return the bits of the hands of a mark."""
        return tuple([1 << (first + 4 * known) for known in self.knows])

    def _none_known(self):
        """Return that nothing is known, for each of what was known ahead."""
        return [0 for _ in self.knows]

    def _all_strands(self, book):
        """Return all strands of the book."""
        strands = {kind: self._step(kind, book.steps[kind]) for kind in KINDS}
        strands["shown"] = self._shown(book.steps)
        strands["join"] = self._joins(book.joins)
        return {**strands, **self._parts(book.parts)}

    def _step(self, kind, steps):
        """Return the strand of a kind of step."""
        told = self._told(kind, steps)
        knowns = self._known_behind(kind)
        if kind in LATE_DEEDS:
            # The last word is known if the edit ahead of it is kept, else nothing is.
            kept = self._strand(told, knowns, KEPT)
            broken = self._strand(told, self.knows, BROKEN)
            return [one | other for one, other in zip(kept, broken)]
        return self._strand(told, knowns, _weight(kind, kind in self.keeps))

    def _told(self, kind, steps):
        """Return for each mark what it becomes by a step, and the signs of what is met."""
        again = self.signs["again"] if kind in DEEDS else 0
        told = []
        for mark in self.marks:
            then, add = steps[mark]
            met = self._apart(add, self.worth[then] - self.worth[mark])
            told.append((then, met if steps[then] == (then, 0) else met | again))
        return told

    def _apart(self, add, due):
        """Return the sign that a total parts, if it does."""
        return 0 if add == due else self.signs["apart"]

    def _known_behind(self, kind):
        """Return what is known behind a step, for each of what was known ahead of it."""
        if kind in ("yes", "late yes"):
            return [self.many - 1 for _ in self.knows]
        if kind == "strike" or kind in self.keeps:
            return self.knows
        return self._none_known()

    def _strand(self, told, knowns, weight):
        """Return the strand behind marks, by pairs of a mark behind one and the signs."""
        return [self.bits[then][known] * weight | met for then, met in told for known in knowns]

    def _parts(self, parts):
        """Return the strands of a parting."""
        knowns = self._known_behind("part")
        lefts = []
        rights = []
        for mark in self.marks:
            left, right, add, more = parts[mark]
            lefts.append((left, self._apart(add, self.worth[left] - self.worth[mark])))
            # The right one takes over nothing, so all that counts there has to be added.
            rights.append((right, self._apart(more, self.worth[right])))
        weight = _weight("part", "part" in self.keeps)
        return {"left": self._strand(lefts, knowns, weight), "right": self._strand(rights, knowns, weight)}

    def _joins(self, joins):
        """Return the strand of joinings."""
        weight = _weight("join", "join" in self.keeps)
        kept = 1 if "join" in self.keeps else 0
        strand = []
        for here in self.marks:
            told = [(joins[(here, there)][0], self._met_joined(joins, here, there)) for there in self.marks]
            for knew in self.knows:
                knowns = [(knew | known) & kept for known in self.knows]
                strand.append(self._strand(told, knowns, weight))
        return strand

    def _met_joined(self, joins, here, there):
        """Return the signs of what is met by a joining of two marks."""
        then, add = joins[(here, there)]
        met = self._apart(add, self.worth[then] - self.worth[here] - self.worth[there])
        return met if joins[(here, there)] == joins[(there, here)] else met | self.signs["side"]

    def _shown(self, steps):
        """Return the strand of the signs that are met without any step."""
        stuck = stuck_marks(self.marks, self.worth, steps)
        strand = []
        for mark in self.marks:
            met = self.signs["stuck"] if mark in stuck else 0
            for known in self.knows:
                wrong = "missed" if known > self.worth[mark] else "false"
                strand.append(met if known == self.worth[mark] else met | self.signs[wrong])
        return strand


def _weight(kind, kept):
    """Return the weight of what is behind a kind of step or edit."""
    return KEPT if kept and WEIGHTS[kind] == BROKEN else WEIGHTS[kind]
