"""What a book tells of one voter at one option.

A standing is a triple (mark, known, late): the voter's mark, whether the last word
about the option was yes, and what late deeds can come to it ("" for none, "kept" or
"broken" as the book keeps the option's last edit, "gone" while it is struck).
"""


class Rules:
    """What becomes of standings by a book, and which faults they meet."""

    def __init__(self, book):
        self.start = (book.blank, False, "")
        self.keeps = book.keeps
        self.worth = book.worth
        self.steps = book.steps
        self.joins = book.joins
        self.parts = book.parts
        self.stuck = stuck_marks(book.marks, book.worth, book.steps)

    def behind_step(self, kind, standing):
        """Return the standing behind a step of this kind, and what is added."""
        mark, known, late = standing
        then, add = self.steps[kind][mark]
        return (then, self._known_behind(kind, known, late), self._late_behind(kind, late)), add

    def behind_join(self, here, there):
        """Return the standing behind a joining of two, and what is added."""
        then, add = self.joins[(here[0], there[0])]
        known = here[1] or there[1]
        return (then, known and "join" in self.keeps, self._late_behind("join", "")), add

    def behind_part(self, standing):
        """Return the standing and what is added, for the left and the right option."""
        mark, known, _ = standing
        left, right, add, more = self.parts[mark]
        known = known and "part" in self.keeps
        late = self._late_behind("part", "")
        return ((left, known, late), add), ((right, known, late), more)

    def shows(self, fault, standing):
        """Return whether a standing meets the fault `false`, `missed` or `stuck`."""
        mark, known, late = standing
        if late == "gone":
            return False
        if fault == "false":
            return self.worth[mark] == 1 and not known
        if fault == "missed":
            return self.worth[mark] == 0 and known
        return fault == "stuck" and mark in self.stuck

    def repeats(self, deed, mark):
        """Return whether the same deed once more would do something."""
        return self.steps[deed][mark] != (mark, 0)

    def clash(self, here, there):
        """Return whether it matters which one of two marks is joined to the other."""
        return self.joins[(here, there)] != self.joins[(there, here)]

    def _known_behind(self, kind, known, late):
        """Return what is known behind a step of this kind."""
        if kind in ("yes", "no"):
            return kind == "yes"
        if kind in ("late yes", "late no"):
            return kind == "late yes" if late == "kept" else known
        return known and (kind == "strike" or kind in self.keeps)

    def _late_behind(self, kind, late):
        """Return what late deeds there can be behind a step or an edit."""
        if kind in ("word", "join", "part"):
            return "kept" if kind in self.keeps else "broken"
        if kind == "strike":
            return "gone"
        # A cut and a deed are no edits, so they leave the last one what it was.
        return "" if kind == "back" else late


def stuck_marks(marks, worth, steps):
    """Return the marks from which no deeds lead to one that is not counted."""
    free = [mark for mark in marks if worth[mark] == 0]
    for _ in marks:
        free = [mark for mark in marks if mark in free or _leads_to(steps, mark, free)]
    return [mark for mark in marks if mark not in free]


def _leads_to(steps, mark, free):
    """Return whether a `yes` or a `no` makes one of these of the mark."""
    return steps["yes"][mark][0] in free or steps["no"][mark][0] in free
