"""Comparing and looking back once more, slowly and by the words of the document."""

import itertools
import random

from forkpolls.books import Book
from tests import oracle


def behind_both(p, q, pair):
    """Return the pairs of standings (mark, mark, late) behind all single steps."""
    mark, twin, late = pair
    if late == "gone":
        return [(p.step("back", mark)[0], q.step("back", twin)[0], "")]
    found = []
    for kind in oracle.STEPS:
        if kind == "back" or (kind.startswith("late") and late == ""):
            continue
        lately = {"word": "edited", "strike": "gone"}.get(kind, late)
        found.append((p.step(kind, mark)[0], q.step(kind, twin)[0], lately))
    for side in (0, 1):
        found.append((p.parted(mark)[side], q.parted(twin)[side], "edited"))
    return found


def pair_depths(p, q):
    """Return the least depths of all pairs of standings, lowered until nothing changes."""
    found = {(p.blank, q.blank, ""): 0}
    changed = True
    while changed:
        changed = False
        offers = [(then, found[one] + 1) for one in found for then in behind_both(p, q, one)]
        for one, two in itertools.product([one for one in found if one[2] != "gone"], repeat=2):
            then = (p.joined(one[0], two[0])[0], q.joined(one[1], two[1])[0], "edited")
            offers.append((then, 1 + max(found[one], found[two])))
        for then, depth in offers:
            if depth < found.get(then, depth + 1):
                found[then] = depth
                changed = True
    return found


def parting_depth(p, q):
    """Return the least depth of an option at which the books are not alike, or None."""
    return min([
        depth for (mark, twin, late), depth in pair_depths(p, q).items()
        if late != "gone" and (mark in p.counted) != (twin in q.counted)], default=None)


def all_partings(marks):
    """Return all partings of a list of marks, as lists of lists."""
    if not marks:
        return [[]]
    found = []
    for parts in all_partings(marks[:-1]):
        found.append([*parts, [marks[-1]]])
        for at in range(len(parts)):
            found.append([*parts[:at], [*parts[at], marks[-1]], *parts[at + 1:]])
    return found


def is_stable(book, parts):
    """Return whether marks of one part count alike and become what is of one part."""
    place = {mark: at for at, part in enumerate(parts) for mark in part}

    def told(mark):
        behind = [book.step(kind, mark)[0] for kind in oracle.STEPS]
        behind += [book.joined(mark, other)[0] for other in book.marks]
        behind += [book.joined(other, mark)[0] for other in book.marks]
        behind += book.parted(mark)[:2]
        return [mark in book.counted, *[place[one] for one in behind]]

    return all(told(one) == told(two) for part in parts for one in part for two in part)


def twins(book):
    """Return the coarsest stable parting, found among all there are."""
    stable = [parts for parts in all_partings(list(book.marks)) if is_stable(book, parts)]
    fewest = min(map(len, stable))
    coarsest = [parts for parts in stable if len(parts) == fewest]
    assert len(coarsest) == 1
    return tuple(tuple(part) for part in coarsest[0])


def choices_of(options):
    """Return all choices of options at first, ascending."""
    return sorted(choice for many in range(options + 1) for choice in itertools.combinations(range(options), many))


def counted_behind(book, options, edits, choice):
    """Return the options in the poll, and those of them where the voter has a counted mark."""
    told = oracle.play(book, 1, options, [*[f"yes 0 {option}" for option in choice], *edits])
    return told["poll"], [option for option in told["poll"] if told["marks"][option][0] in book.counted]


def voted(book, options, edits, told):
    """Return what `voted` has to return, by looking at each choice."""
    found = []
    for choice in choices_of(options):
        poll, counted = counted_behind(book, options, edits, choice)
        if counted == [option for option in poll if option in told]:
            found.append(choice)
    return tuple(found)


def pasts(options, edits):
    """Return for each option the options at first from which it came."""
    past = [{option} for option in range(options)]
    for edit in edits:
        kind, *numbers = edit.split()
        numbers = [int(word) for word in numbers]
        if kind == "join":
            past.append(past[numbers[0]] | past[numbers[1]])
        if kind == "part":
            past += [past[numbers[0]], past[numbers[0]]]
    return past


def harmless(book, options, edits):
    """Return what `harmless` has to return, by looking at each choice."""
    past = pasts(options, edits)
    for choice in choices_of(options):
        poll, counted = counted_behind(book, options, edits, choice)
        if counted != [option for option in poll if past[option] & set(choice)]:
            return False
    return True


def random_edits(dice, options, many):
    """Return edits that are possible one behind the other, as many as asked for if there are so many."""
    book = Book(["a"], [], [], [])
    poll, edits = oracle.Poll(book, 1, options), []
    for _ in range(many * 6):
        if len(edits) == many:
            break
        numbers = range(len(poll.options))
        kind = dice.choice(("word", "strike", "back", "back", "join", "join", "part"))
        edit = f"{kind} {dice.choice(numbers)}"
        if kind == "join":
            edit = f"{edit} {dice.choice(numbers)}"
        try:
            poll.do(edit)
        except oracle.NotPossible:
            continue
        edits.append(edit)
    return edits


def renamed(book, names):
    """Return the book with other names for its marks."""
    lines = str(book).split("\n")
    lines[0] = " ".join([names.get(word, word) for word in lines[0].split(" ")])
    lines[1] = " ".join([names.get(word, word) for word in lines[1].split(" ")])
    for at in range(3, len(lines)):
        first, *rest = lines[at].split(" ")
        lines[at] = " ".join([first, *[names.get(word, word) for word in rest]])
    return Book.read("\n".join(lines))


def with_marks_in_other_order(book, seed):
    """Return the book with its marks, but the blank, in another order."""
    others = list(book.marks[1:])
    random.Random(seed).shuffle(others)
    return Book([book.blank, *others], book.counted, book.keeps, book.rows)
