"""Promises 13, 14 and 15: standings, depths, stories, and the rows that are done."""

import inspect
import itertools
import random
import unittest

from forkpolls import deciding
from forkpolls.books import Book
from forkpolls.deciding import comes, depth, faults, happens, standings, story
from forkpolls.errors import InvalidFault, NoRow
from forkpolls.polls import depths, play
from forkpolls.rows import Join
from tests import oracle
from tests.books import EDITS, FAULTS, GOOD, LINES, POOR, book_of
from tests.values import ANY_VALUES

# Words that look like faults, and any values.
NO_FAULTS = (*ANY_VALUES, "", "Again", "again ", " side", "side\n", "fault", "faults", "again apart", ["side"], ("side",), [["again"]])

# A book whose joinings have to be nested: each mark comes of two of the one ahead.
LADDER = book_of(
    "join none none to low by 0", "join low low to mid by 0", "join mid mid to top by 0", "join any any to none by 0",
    marks="none low mid top", counted="top")


def late_of(book, last):
    """Return what the last edit of an option, by the oracle, means for late deeds."""
    if last is None or last[1] == "back":
        return ""
    if last[1] == "strike":
        return "gone"
    return "kept" if last[1] in book.keeps else "broken"


def met_depths(poll):
    """Return the pairs (fault, depth) that a poll of one voter, by the oracle, meets now."""
    now = [(fault, poll.options[number].depths[0]) for fault, number in poll.now()]
    # One of two that stand side by side may be less deep than the story.
    greatest = max([deep for fault, deep in now if fault == "side"], default=None)
    return [(fault, greatest if fault == "side" else deep) for fault, deep in now]


class Deciding(unittest.TestCase):
    def assert_story(self, book, fault):
        """Check that a story is told, and that it is of the depth that is told."""
        told = story(book, fault)
        self.assertIsInstance(told, tuple)
        options, events = told
        self.assertIsInstance(events, tuple)
        self.assertTrue(1 <= options <= 512)
        now = play(book, 1, options, events).now
        deep = depths(1, options, events)[0]
        at = [deep[option] for met, option in now if met == fault]
        self.assertIn(depth(book, fault), at, (str(book), fault, told))
        if fault == "side":
            self.assertGreater(len(at), 1)

    def assert_decided(self, book):
        """Check all that is told of a book against the oracle."""
        self.assertEqual(standings(book), tuple(sorted(oracle.least_depths(book).items())), str(book))
        happening = []
        for fault in FAULTS:
            wanted = oracle.fault_depth(book, fault)
            self.assertEqual(depth(book, fault), wanted, (str(book), fault))
            self.assertIs(happens(book, fault), wanted is not None)
            if wanted is None:
                self.assertIsNone(story(book, fault))
            else:
                happening.append(fault)
                self.assert_story(book, fault)
        self.assertEqual(faults(book), tuple(happening))


class Interface(Deciding):
    WORDS = {
        "standings": ["book"], "happens": ["book", "fault"], "faults": ["book"], "depth": ["book", "fault"],
        "story": ["book", "fault"], "comes": ["book", "at"],
    }

    def test_parameters_and_where_things_are_defined(self):
        for name, words in self.WORDS.items():
            told = getattr(deciding, name)
            self.assertEqual(list(inspect.signature(told).parameters), words)
            self.assertEqual(told.__module__, "forkpolls.deciding")

    def test_arguments_by_name(self):
        self.assertEqual(len(standings(book=GOOD)), 6)
        self.assertIs(happens(fault="side", book=POOR), True)
        self.assertEqual(faults(book=POOR), ("apart", "missed", "side"))
        self.assertEqual(depth(fault="missed", book=POOR), 2)
        self.assertIsNone(story(fault="side", book=GOOD))
        self.assertIs(comes(at=0, book=GOOD), True)

    def test_kinds_of_values(self):
        for pair in standings(GOOD):
            (mark, known, late), least = pair
            self.assertEqual([type(value) for value in (pair, pair[0], mark, known, late, least)], [tuple, tuple, str, bool, str, int])
        self.assertIsInstance(faults(GOOD), tuple)
        for fault in FAULTS:
            self.assertIsInstance(happens(POOR, fault), bool)

    def test_the_same_call_returns_an_equal_result(self):
        before = [(faults(book), standings(book), [story(book, fault) for fault in FAULTS]) for book in (GOOD, POOR)]
        faults(oracle.random_book(1))
        with self.assertRaises(InvalidFault):
            depth(POOR, "fault")
        self.assertEqual([(faults(book), standings(book), [story(book, fault) for fault in FAULTS]) for book in (GOOD, POOR)], before)


class Wrong(Deciding):
    def test_any_values_in_the_place_of_a_fault(self):
        for value in NO_FAULTS:
            for told in (happens, depth, story):
                for book in (GOOD, POOR):
                    with self.assertRaises(InvalidFault):
                        told(book, value)

    def test_numbers_of_rows_that_there_are_not(self):
        for book in (GOOD, book_of(), book_of("yes a to b by 1")):
            for at in (-10 ** 30, -8, -2, -1, len(book), len(book) + 1, 99, 10 ** 30):
                with self.assertRaises(NoRow) as caught:
                    comes(book, at)
                self.assertEqual(caught.exception.at, at)


class Standings(Deciding):
    def test_the_good_book(self):
        self.assertEqual(standings(GOOD), (
            (("in", True, ""), 1), (("in", True, "gone"), 2), (("in", True, "kept"), 2), (("none", False, ""), 0),
            (("none", False, "gone"), 1), (("none", False, "kept"), 1)))

    def test_a_book_without_rows(self):
        self.assertEqual(standings(Book(["a"], [], [], [])), (
            (("a", False, ""), 0), (("a", False, "broken"), 1), (("a", False, "gone"), 1), (("a", True, ""), 1),
            (("a", True, "broken"), 2), (("a", True, "gone"), 2)))

    def test_kept_and_broken(self):
        for many in range(6):
            for keeps in itertools.combinations(EDITS, many):
                told = {one[2] for one, _ in standings(book_of(keeps=" ".join(keeps)))}
                kept = {kind in keeps for kind in ("word", "join", "part")}
                self.assertEqual(told, {"", "gone"} | {"kept" for one in kept if one} | {"broken" for one in kept if not one})

    def test_steps_that_can_not_come_about(self):
        # A late deed takes an edit, and nothing but `back` comes to a struck option.
        book = book_of("late yes a to b by 1", "back c to b by 1", keeps="back")
        self.assertEqual({one[0][:2] for one in standings(book)}, {("a", False), ("a", True), ("b", False), ("b", True)})
        self.assertEqual(dict(standings(book))[("b", False, "broken")], 2)
        book = book_of("strike a to c by 0", "yes c to b by 1", "word c to b by 1", "cut c to b by 0")
        self.assertNotIn("b", {one[0][0] for one in standings(book) if one[0][2] == "gone" and one[1] < 4})
        self.assertEqual(dict(standings(book))[("c", False, "gone")], 1)
        self.assertEqual(dict(standings(book))[("b", True, "")], 3)

    def test_joinings_in_layers(self):
        least = dict(standings(LADDER))
        for at, mark in enumerate(("none", "low", "mid", "top")):
            self.assertEqual(least[(mark, False, "broken")], max(at, 1))

    def test_joining_takes_two_that_are_not_gone(self):
        book = book_of("strike a to c by 0", "join c any to b by 1", "join any c to b by 1", "back any to a by 0")
        self.assertNotIn("b", {one[0][0] for one in standings(book)})
        book = book_of("strike a to c by 0", "join c any to b by 1", "join any c to b by 1")
        self.assertEqual(dict(standings(book))[("b", False, "broken")], 3)

    def test_the_standings_of_polls_by_chance(self):
        for seed in range(120):
            dice = random.Random(seed)
            book, voters, options = oracle.random_book(seed), dice.randint(1, 3), dice.randint(1, 5)
            poll, least, happening = oracle.Poll(book, voters, options), dict(standings(book)), set(faults(book))
            for event in oracle.random_events(dice, book, voters, options, 30):
                poll.do(event)
                for option in poll.options:
                    if option.place != "ended":
                        for mark, known, deep in zip(option.marks, option.known, option.depths):
                            self.assertLessEqual(least[(mark, known, late_of(book, option.last))], deep)
                self.assertTrue({fault for fault, _ in poll.now()} <= happening)

    def test_no_story_by_chance_is_less_deep(self):
        for seed in range(120):
            dice = random.Random(seed)
            book, options = oracle.random_book(seed, 3, 8), dice.randint(1, 4)
            poll, least = oracle.Poll(book, 1, options), {fault: depth(book, fault) for fault in FAULTS}
            for event in oracle.random_events(dice, book, 1, options, 12):
                poll.do(event)
                for fault, deep in met_depths(poll):
                    self.assertLessEqual(least[fault], deep)


class Shallow(Deciding):
    """All stories of a few events by small books, one and all."""

    BOOKS = (
        book_of("yes a to b by 1", "no b to a by -1", "join b b to b by -1", marks="a b", keeps="join"),
        book_of("yes a to b by 1", "word b to a by 0", "late yes any to b by 1", "part b to b b by 0 0", marks="a b", keeps="word cut"),
        book_of("late no a to b by 1", "strike a to b by 0", "back b to a by -1", "no b to a by -1", "cut b to a by 0", marks="a b"),
        POOR,
    )

    def events(self, poll):
        numbers = range(len(poll.options))
        for number in numbers:
            yield from (f"{kind} {number}" for kind in ("word", "strike", "back", "part"))
            yield from (f"{kind} 0 {number}" for kind in ("yes", "no", "late yes", "late no", "cut"))
            yield from (f"join {number} {other}" for other in numbers)

    def told(self, book, many):
        """Return the least depths at which faults are met, and standings stand, in all stories of so many events."""
        met, stand = {}, {}
        todo = [()]
        while todo:
            events = todo.pop()
            poll = oracle.Poll(book, 1, 2)
            for event in events:
                poll.do(event)
            for fault, deep in met_depths(poll):
                met[fault] = min(met.get(fault, deep), deep)
            for option in poll.options:
                if option.place != "ended":
                    one = (option.marks[0], option.known[0], late_of(book, option.last))
                    stand[one] = min(stand.get(one, 99), option.depths[0])
            if len(events) < many:
                todo += [(*events, event) for event in self.events(poll) if self.is_possible(book, (*events, event))]
        return met, stand

    def is_possible(self, book, events):
        return not isinstance(oracle.play(book, 1, 2, events), int)

    def test_all_stories_of_three_events(self):
        for book in self.BOOKS:
            met, stand = self.told(book, 3)
            least = dict(standings(book))
            for fault in FAULTS:
                told = depth(book, fault)
                # With so few events there is one for each step of the depth.
                if told is not None and told <= 2:
                    self.assertEqual(met.get(fault), told, (str(book), fault))
                else:
                    self.assertGreaterEqual(met.get(fault, 99), 99 if told is None else told)
            for one, deep in stand.items():
                self.assertLessEqual(least[one], deep)
            for one, deep in least.items():
                if deep <= 1:
                    self.assertEqual(stand[one], deep)


class Depth(Deciding):
    def test_each_fault(self):
        # Each book has what its fault takes, and the row by which the fault is met at this depth.
        ways = {
            "again": [(1, "yes a to b by 1", "yes b to c by 0"), (2, "late no a to same by 1"), (1, "no a to same by -1")],
            "apart": [
                (1, "yes a to b by 0"), (1, "cut a to same by 1"), (1, "strike a to b by 0"), (2, "back a to same by -1"),
                (1, "word a to same by 2"), (1, "part a to b a by 0 0"), (1, "part a to a b by 0 0"), (1, "join a a to b by 0"),
                (2, "late yes a to b by 0"), (1, "join a a to a by -1"), (1, "part any to same a by 0 1"),
            ],
            "false": [(1, "no a to b by 1"), (2, "back a to b by 1"), (1, "join a a to b by 1"), (1, "part any to a b by 0 1")],
            "missed": [(1, "yes a to a by 0")],
            "stuck": [(1, "yes a to b by 1"), (1, "cut a to b by 1"), (2, "back a to b by 1")],
            "side": [(1, "yes a to b by 1", "join b b to a by 0"), (1, "join any any to one by 0", "cut a to b by 1")],
        }
        for fault, books in ways.items():
            for wanted, *rows in books:
                book = book_of(*rows)
                self.assertEqual(depth(book, fault), wanted, (fault, rows))
                self.assert_decided(book)

    def test_a_book_of_one_mark(self):
        book = Book(["a"], [], [], [])
        self.assertEqual(faults(book), ("missed",))
        self.assertEqual(story(book, "missed"), (1, ("yes 0 0",)))
        self.assert_decided(book)

    def test_nested_joinings(self):
        self.assertEqual(depth(LADDER, "false"), 3)
        options, events = story(LADDER, "false")
        self.assertEqual((options, len(events)), (8, 7))
        self.assert_decided(LADDER)
        clash = Book(LADDER.marks, LADDER.counted, (), [Join("top", "none", "one", 0), *LADDER.rows])
        self.assertEqual(depth(clash, "side"), 3)
        self.assert_decided(clash)

    def test_a_story_of_many_options(self):
        marks = [*"abcdefghi"]
        rows = [Join(mark, mark, then, 0) for mark, then in zip(marks, marks[1:])]
        book = Book(marks, ["i"], [], [*rows, Join("any", "any", "a", 0)])
        self.assertEqual(depth(book, "false"), 8)
        self.assertEqual(story(book, "false")[0], 256)
        self.assert_story(book, "false")

    def test_late_deeds_in_stories(self):
        for edit, rows in {
            "word": ("word a to c by 0",), "join": ("join a a to c by 0", "join any any to a by 0"),
            "left": ("part a to c a by 0 0",), "right": ("part a to a c by 0 0",),
        }.items():
            book = book_of(*rows, "late no c to b by 1", keeps="word join part")
            self.assertEqual(depth(book, "false"), 2, edit)
            self.assert_story(book, "false")
            book = book_of(*rows, "cut c to d by 0", "late yes d to b by 2", marks="a b c d", keeps="word join part")
            self.assertEqual(depth(book, "apart"), 3, edit)
            self.assert_story(book, "apart")

    def test_late_deeds_at_an_option_that_was_edited_twice(self):
        book = book_of(
            "join a a to c by 0", "join any any to a by 0", "word c to d by 0", "late no d to b by 0", marks="a b c d")
        self.assertEqual(depth(book, "apart"), 3)
        self.assert_story(book, "apart")
        book = book_of("word a to c by 0", "part c to a d by 0 0", "late no d to b by 0", marks="a b c d")
        self.assertEqual(depth(book, "apart"), 3)
        self.assert_story(book, "apart")

    def test_struck_options_in_stories(self):
        book = book_of("strike a to c by 0", "back c to d by 0", "word d to b by 0", marks="a b c d")
        self.assertEqual(depth(book, "apart"), 3)
        self.assert_story(book, "apart")
        book = book_of("strike a to b by 1")
        self.assertEqual((depth(book, "false"), depth(book, "stuck")), (2, 2))
        self.assert_decided(book)
        book = book_of("strike a to b by 1", "back b to a by -1")
        self.assertEqual((depth(book, "false"), depth(book, "stuck"), depth(book, "apart")), (None, None, None))

    def test_faults_that_take_several_voters_are_met_by_one(self):
        self.assertEqual(faults(GOOD), ())
        self.assertTrue(happens(POOR, "apart"))

    def test_books_by_chance(self):
        for seed in range(300):
            self.assert_decided(oracle.random_book(seed))

    def test_small_books_by_chance(self):
        for seed in range(200):
            self.assert_decided(oracle.random_book(seed + 1000, 2, 6))

    def test_books_near_a_good_one(self):
        seen = {fault: set() for fault in FAULTS}
        for seed in range(300):
            book = oracle.near_book(seed, GOOD)
            self.assert_decided(book)
            for fault in FAULTS:
                seen[fault].add(depth(book, fault))
        for fault in FAULTS:
            self.assertIn(None, seen[fault])
            self.assertGreater(len(seen[fault]), 2, fault)

    def test_books_that_ask_anew(self):
        for seed in range(12):
            self.assert_decided(oracle.random_book(seed).asking(EDITS))


class Comes(Deciding):
    def assert_comes(self, wanted, *rows, **words):
        book = book_of(*rows, **words)
        self.assertEqual([comes(book, at) for at in range(len(book))], wanted, rows)

    def test_the_good_book(self):
        self.assertEqual([comes(GOOD, at) for at in range(7)], [True] * 7)

    def test_marks_that_never_stand_there(self):
        self.assert_comes([True, False], "yes a to b by 1", "no c to a by 0")
        self.assert_comes([False, False, False], "join b any to a by 0", "join a b to c by 0", "part c to a a by 0 0")
        self.assert_comes([True, True, True], "join a any to b by 0", "join any b to c by 0", "part c to a a by 0 0")

    def test_rows_behind_others_that_fit(self):
        self.assert_comes([True, False, False], "yes any to b by 1", "yes a to b by 1", "yes b to c by 0")
        self.assert_comes([True, True], "yes a to b by 1", "yes any to b by 0")
        self.assert_comes([True, False], "join any any to b by 1", "join any b to b by 1")
        self.assert_comes([True, False], "part any to a a by 0 0", "part a to b b by 0 0")

    def test_rows_with_equal_texts(self):
        self.assert_comes([True, False, False], *["yes a to b by 1"] * 3)
        self.assert_comes([True, False], *["join a a to b by 1"] * 2)
        self.assert_comes([True, False], *["part a to b b by 1 1"] * 2)

    def test_rows_that_do_nothing_come_too(self):
        self.assert_comes([True], "yes a to a by 0")
        self.assert_comes([True], "strike any to same by 0")

    def test_each_kind(self):
        for kind in ("yes", "no", "late yes", "late no", "word", "strike", "back", "cut"):
            self.assert_comes([True, False], f"{kind} a to b by 0", f"{kind} c to b by 0")

    def test_steps_that_can_not_come_about(self):
        # Only a struck option has the mark `c`, or only one that is not struck.
        rows = ("strike any to c by 0", "back any to a by 0")
        for row in (
            "yes c to a by 0", "no c to a by 0", "cut c to a by 0", "word c to a by 0", "strike c to a by 0", "part c to a a by 0 0",
            "join c any to a by 0", "join any c to a by 0", "late yes c to a by 0", "back a to c by 0",
        ):
            self.assert_comes([False, True, True], row, *rows)
        self.assert_comes(
            [False, True, True, True, True], "late no b to a by 0", "back any to b by 0", "word b to a by 0",
            "join any any to a by 0", "part any to a a by 0 0")

    def test_books_by_chance(self):
        seen = {True: 0, False: 0}
        for seed in range(80):
            book = oracle.random_book(seed)
            done = self.done(book)
            for at in range(len(book)):
                self.assertIs(comes(book, at), at in done, (str(book), at))
                seen[at in done] += 1
        self.assertGreater(min(seen.values()), 100)

    def done(self, book):
        """Return the numbers of the rows that are done at some standing."""
        found = oracle.least_depths(book)
        asked = [(kind, (one[0],)) for one in found for kind, _, _ in oracle.behind(book, one)]
        asked += [("join", (one[0], two[0])) for one in found for two in found if "gone" not in (one[2], two[2])]
        return {self.first(book, kind, marks) for kind, marks in set(asked)}

    def first(self, book, kind, marks):
        for at, row in enumerate(book.rows):
            words = str(row).split(" ")
            head = "late " + words[1] if words[0] == "late" else words[0]
            olds = words[len(head.split(" ")):words.index("to")]
            if head == kind and all(old in ("any", mark) for old, mark in zip(olds, marks)):
                return at
        return None


class Examples(Deciding):
    def test_the_overview(self):
        self.assertEqual((faults(GOOD), faults(Book.read("\n".join(LINES[:7] + LINES[8:])))), ((), ("apart",)))
        self.assertEqual(
            (faults(POOR), depth(POOR, "missed"), depth(POOR, "side"), story(GOOD, "side")), (("apart", "missed", "side"), 2, 1, None))

    def test_the_standings_of_the_document(self):
        self.assertEqual(
            (len(standings(GOOD)), standings(GOOD)[0], [one for one in standings(GOOD) if one[0][2] == "gone"]),
            (6, (("in", True, ""), 1), [(("in", True, "gone"), 2), (("none", False, "gone"), 1)]))

    def test_the_stories_of_the_overview(self):
        for book in (POOR, GOOD.without(4)):
            self.assert_decided(book)


if __name__ == "__main__":
    unittest.main()
