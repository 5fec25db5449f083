"""Polls and standings once more, slowly and by the words of the document, to compare with.

Nothing here uses the package but the books, and what they tell of marks.
"""

import itertools
import random
import re

from forkpolls.books import Book
from forkpolls.rows import Join, Part, Step

EDITS = ("back", "cut", "join", "part", "word")
FAULTS = ("again", "apart", "false", "missed", "side", "stuck")
DEEDS = ("yes", "no", "late yes", "late no")
STEPS = (*DEEDS, "word", "strike", "back", "cut")

NUMBER = "(0|[1-9][0-9]{0,3})"
FORMS = re.compile(
    f"(?:(yes|no|late yes|late no|cut) {NUMBER} {NUMBER}|(word|strike|back|part) {NUMBER}|(join) {NUMBER} {NUMBER}|(count))")


class NotPossible(Exception):
    """This is no event, or it is not possible."""


class Option:
    """What is known of one option; `last` is the pair (number of the edit, kind)."""

    def __init__(self, marks, known, total, depths):
        self.marks, self.known, self.total, self.depths = list(marks), list(known), total, list(depths)
        self.place, self.last, self.made_by = "in", None, None


class Poll:
    """A poll that goes on, event by event."""

    def __init__(self, book, voters, options):
        self.book, self.voters = book, voters
        self.options = [Option([book.blank] * voters, [False] * voters, 0, [0] * voters) for _ in range(options)]
        self.edits = 0
        self.deed, self.reached = None, []

    def counted(self, option):
        return sum(mark in self.book.counted for mark in option.marks)

    def at(self, number, place="in"):
        if number >= len(self.options) or self.options[number].place != place:
            raise NotPossible
        return self.options[number]

    def voter(self, number):
        if number >= self.voters:
            raise NotPossible
        return number

    def do(self, event):
        match = FORMS.fullmatch(event) if isinstance(event, str) else None
        if match is None:
            raise NotPossible
        kind, *numbers = [word for word in match.groups() if word is not None]
        numbers = [int(word) for word in numbers]
        self.deed, self.reached = None, []
        if kind in DEEDS:
            self.do_deed(kind, *numbers)
        elif kind == "count":
            for option in self.options:
                if option.place == "in":
                    option.total = self.counted(option)
        elif kind == "cut":
            voter, option = self.voter(numbers[0]), self.at(numbers[1])
            self.step(option, voter, "cut")
            option.known[voter] = option.known[voter] and "cut" in self.book.keeps
        elif kind == "join":
            self.do_join(*numbers)
        elif kind == "part":
            self.do_part(*numbers)
        else:
            self.do_edit(kind, *numbers)

    def step(self, option, voter, kind):
        option.marks[voter], add = self.book.step(kind, option.marks[voter])
        option.total += add
        option.depths[voter] += 1

    def do_deed(self, kind, voter, number):
        self.voter(voter)
        if kind.startswith("late"):
            reached = self.late_options(number)
        else:
            reached = [self.at(number)]
        for option in reached:
            self.step(option, voter, kind)
            if not kind.startswith("late") or option.last[1] in self.book.keeps:
                option.known[voter] = kind.endswith("yes")
        self.deed, self.reached = (kind, voter), reached

    def late_options(self, number):
        if number >= len(self.options) or self.options[number].place == "struck":
            raise NotPossible
        shown = self.options[number]
        if shown.last is None or shown.last[1] == "back" or shown.last == shown.made_by:
            raise NotPossible
        reached = [option for option in self.options if option.place == "in" and option.last == shown.last]
        if not reached:
            raise NotPossible
        return reached

    def do_edit(self, kind, number):
        option = self.at(number, "struck" if kind == "back" else "in")
        for voter in range(self.voters):
            self.step(option, voter, kind)
        if kind != "strike" and kind not in self.book.keeps:
            option.known = [False] * self.voters
        option.place = "struck" if kind == "strike" else "in"
        self.edits += 1
        option.last = (self.edits, kind)

    def end(self, kind, olds, news):
        self.edits += 1
        for option in (*olds, *news):
            option.last = (self.edits, kind)
        for option in olds:
            option.place = "ended"
        for option in news:
            option.made_by = option.last
            self.options.append(option)

    def do_join(self, one, other):
        if one == other:
            raise NotPossible
        one, other = self.at(one), self.at(other)
        told = [self.book.joined(*pair) for pair in zip(one.marks, other.marks)]
        new = Option(
            [mark for mark, _ in told],
            [(a or b) if "join" in self.book.keeps else False for a, b in zip(one.known, other.known)],
            one.total + other.total + sum(add for _, add in told),
            [1 + max(pair) for pair in zip(one.depths, other.depths)])
        self.end("join", [one, other], [new])

    def do_part(self, number):
        old = self.at(number)
        told = [self.book.parted(mark) for mark in old.marks]
        known = old.known if "part" in self.book.keeps else [False] * self.voters
        depths = [depth + 1 for depth in old.depths]
        left = Option([one[0] for one in told], known, old.total + sum(one[2] for one in told), depths)
        right = Option([one[1] for one in told], known, sum(one[3] for one in told), depths)
        self.end("part", [old], [left, right])

    def now(self):
        found = set()
        for number, option in enumerate(self.options):
            if option.place != "ended" and option.total != self.counted(option):
                found.add(("apart", number))
            if option.place == "in":
                found |= {(fault, number) for fault in FAULTS if self.is_met(fault, option)}
        return tuple(sorted(found))

    def is_met(self, fault, option):
        counted, voters = self.book.counted, range(self.voters)
        if fault == "again":
            if self.deed is None or not any(reached is option for reached in self.reached):
                return False
            kind, voter = self.deed
            mark, add = self.book.step(kind, option.marks[voter])
            return mark != option.marks[voter] or add != 0
        if fault == "false":
            return any(option.marks[voter] in counted and not option.known[voter] for voter in voters)
        if fault == "missed":
            return any(option.known[voter] and option.marks[voter] not in counted for voter in voters)
        if fault == "side":
            return any(
                self.book.joined(one, two) != self.book.joined(two, one)
                for other in self.options if other.place == "in" and other is not option
                for one, two in zip(option.marks, other.marks))
        if fault == "stuck":
            return any(is_stuck(self.book, mark) for mark in option.marks)
        return False


def is_stuck(book, mark):
    """Return whether no deeds lead from a counted mark to one that is not."""
    if mark not in book.counted:
        return False
    seen = set()
    todo = [mark]
    while todo:
        here = todo.pop()
        for kind in ("yes", "no"):
            then = book.step(kind, here)[0]
            if then not in book.counted:
                return False
            if then not in seen:
                seen.add(then)
                todo.append(then)
    return True


def play(book, voters, options, events):
    """Return a dict of what `play` has to tell, and the depths; the number of the first wrong event if there is one."""
    poll = Poll(book, voters, options)
    met = {fault for fault, _ in poll.now()}
    for at, event in enumerate(events):
        try:
            poll.do(event)
        except NotPossible:
            return at
        met |= {fault for fault, _ in poll.now()}
    held = [None if option.place == "ended" else option for option in poll.options]
    return {
        "poll": tuple(at for at, option in enumerate(poll.options) if option.place == "in"),
        "marks": tuple(option and tuple(option.marks) for option in held),
        "known": tuple(option and tuple(option.known) for option in held),
        "totals": tuple(None if option is None else option.total for option in held),
        "counts": tuple(None if option is None else poll.counted(option) for option in held),
        "now": poll.now(),
        "met": tuple(sorted(met)),
        "depths": tuple(tuple(option.depths[voter] for option in poll.options) for voter in range(voters)),
    }


def behind(book, standing):
    """Return (kind, standing behind, whether the total parts) for all single steps."""
    mark, known, late = standing
    worth = {one: one in book.counted for one in book.marks}
    found = []

    def late_of(kind):
        return "kept" if kind in book.keeps else "broken"

    if late == "gone":
        then, add = book.step("back", mark)
        return [("back", (then, known and "back" in book.keeps, ""), add != worth[then] - worth[mark])]
    for kind in STEPS:
        if kind == "back" or (kind.startswith("late") and late == ""):
            continue
        then, add = book.step(kind, mark)
        knows, lately = known, late
        if kind in ("yes", "no") or (kind in DEEDS and late == "kept"):
            knows = kind.endswith("yes")
        elif kind in ("word", "cut"):
            knows = known and kind in book.keeps
        if kind == "word":
            lately = late_of("word")
        elif kind == "strike":
            lately = "gone"
        found.append((kind, (then, knows, lately), add != worth[then] - worth[mark]))
    left, right, add, more = book.parted(mark)
    knows = known and "part" in book.keeps
    found.append(("part", (left, knows, late_of("part")), add != worth[left] - worth[mark]))
    found.append(("part", (right, knows, late_of("part")), more != worth[right]))
    return found


def behind_two(book, here, there):
    """Return the standing behind a joining, and whether the total parts."""
    worth = {one: one in book.counted for one in book.marks}
    then, add = book.joined(here[0], there[0])
    known = (here[1] or there[1]) and "join" in book.keeps
    late = "kept" if "join" in book.keeps else "broken"
    return (then, known, late), add != worth[then] - worth[here[0]] - worth[there[0]]


def least_depths(book):
    """Return the standings with their least depths, lowered until nothing changes."""
    found = {(book.blank, False, ""): 0}
    changed = True
    while changed:
        changed = False
        offers = [(then, found[one] + 1) for one in found for _, then, _ in behind(book, one)]
        offers += [
            (behind_two(book, one, two)[0], 1 + max(found[one], found[two]))
            for one in found for two in found if "gone" not in (one[2], two[2])]
        for then, depth in offers:
            if depth < found.get(then, depth + 1):
                found[then] = depth
                changed = True
    return found


def shows(book, fault, standing):
    """Return whether a standing meets a fault by itself."""
    mark, known, late = standing
    if late == "gone":
        return False
    if fault == "false":
        return mark in book.counted and not known
    if fault == "missed":
        return mark not in book.counted and known
    return fault == "stuck" and is_stuck(book, mark)


def fault_depth(book, fault):
    """Return the least depth at which a fault is met, or None."""
    found = least_depths(book)
    depths = [depth for one, depth in found.items() if shows(book, fault, one)]
    pairs = [(one, two) for one in found for two in found if "gone" not in (one[2], two[2])]
    for one, depth in found.items():
        for kind, then, apart in behind(book, one):
            again = kind in DEEDS and book.step(kind, then[0]) != (then[0], 0)
            if (fault == "apart" and apart) or (fault == "again" and again):
                depths.append(depth + 1)
    for one, two in pairs:
        if fault == "apart" and behind_two(book, one, two)[1]:
            depths.append(1 + max(found[one], found[two]))
        if fault == "side" and book.joined(one[0], two[0]) != book.joined(two[0], one[0]):
            depths.append(max(found[one], found[two]))
    return min(depths, default=None)


def is_paper(book, fault, items):
    """Return whether a list of standings, each of the right form, is a right paper."""
    held = set(items)
    if (book.blank, False, "") not in held or any(shows(book, fault, one) for one in held):
        return False
    for one in held:
        for kind, then, apart in behind(book, one):
            again = kind in DEEDS and book.step(kind, then[0]) != (then[0], 0)
            if then not in held or (fault == "apart" and apart) or (fault == "again" and again):
                return False
    for one, two in itertools.product([one for one in held if one[2] != "gone"], repeat=2):
        then, apart = behind_two(book, one, two)
        if then not in held or (fault == "apart" and apart):
            return False
        if fault == "side" and book.joined(one[0], two[0]) != book.joined(two[0], one[0]):
            return False
    return True


def random_book(seed, most_marks=4, most_rows=16):
    """Return a book that is found by chance."""
    dice = random.Random(seed)
    marks = ["none", "in", "out", "half"][:dice.randint(2, most_marks) if dice.random() < 0.95 else 1]
    counted = [mark for mark in marks[1:] if dice.random() < 0.6]
    keeps = [kind for kind in EDITS if dice.random() < 0.6]
    rows = [random_row(dice, marks, counted) for _ in range(dice.randint(0, most_rows))]
    return Book(marks, counted, keeps, rows)


def near_book(seed, book):
    """Return a book that has a few rows, and what is kept, unlike a good one."""
    dice = random.Random(seed)
    rows = list(book.rows)
    for _ in range(dice.randint(0, 2)):
        del rows[dice.randrange(len(rows))]
    for _ in range(dice.randint(0, 2)):
        rows.insert(dice.randint(0, len(rows)), random_row(dice, book.marks, book.counted))
    keeps = [kind for kind in book.keeps if dice.random() < 0.9]
    return Book(book.marks, book.counted, keeps, rows)


def random_row(dice, marks, counted):
    """Return a row that adds the right number more often than not."""
    olds = [*marks, "any"]
    wrong = dice.choice((-1, 1)) if dice.random() < 0.2 else 0

    def worth(mark):
        return 1 if mark in counted else 0

    kind = dice.choice((*STEPS, "yes", "no", "join", "join", "join", "part", "part"))
    if kind == "join":
        here, there, then = dice.choice(olds), dice.choice(olds), dice.choice([*marks, "one", "other"])
        kept = {"one": here, "other": there}.get(then, then)
        return Join(here, there, then, worth(kept) - worth(here) - worth(there) + wrong)
    if kind == "part":
        old, left, right = dice.choice(olds), dice.choice([*marks, "same"]), dice.choice([*marks, "same"])
        lefts, rights = (old if left == "same" else left), (old if right == "same" else right)
        return Part(old, left, right, worth(lefts) - worth(old) + wrong, worth(rights))
    old, then = dice.choice(olds), dice.choice([*marks, "same"])
    return Step(kind, old, then, worth(old if then == "same" else then) - worth(old) + wrong)


def random_events(dice, book, voters, options, many):
    """Return events that are possible one behind the other."""
    poll, events = Poll(book, voters, options), []
    for _ in range(many * 4):
        if len(events) == many:
            break
        numbers, voter = range(len(poll.options)), dice.randrange(voters)
        kind = dice.choice((*STEPS, "yes", "late yes", "late no", "join", "part", "count"))
        if kind == "count":
            event = "count"
        elif kind == "join":
            event = f"join {dice.choice(numbers)} {dice.choice(numbers)}"
        elif kind in (*DEEDS, "cut"):
            event = f"{kind} {voter} {dice.choice(numbers)}"
        else:
            event = f"{kind} {dice.choice(numbers)}"
        try:
            poll.do(event)
        except NotPossible:
            continue
        events.append(event)
    return tuple(events)
