"""Promise 18: whether books are alike, where they part, and which marks are twins."""

import inspect
import itertools
import random
import unittest

from forkpolls import comparing
from forkpolls.books import Book
from forkpolls.comparing import alike, parting, twins
from forkpolls.polls import depths, play
from tests import oracle, oracle_two
from tests.books import EDITS, GOOD, LINES, POOR, book_of


def counted_marks(book, voters, options, events):
    """Return for each option in the poll which voters have counted marks there."""
    played = play(book, voters, options, events)
    return {option: [mark in book.counted for mark in played.marks[option]] for option in played.poll}


class Comparing(unittest.TestCase):
    def assert_parting(self, p, q):
        """Check the story that is told of two books that are not alike."""
        told = parting(p, q)
        self.assertIsInstance(told, tuple)
        options, events = told
        self.assertIsInstance(options, int)
        self.assertIsInstance(events, tuple)
        ones, others = counted_marks(p, 1, options, events), counted_marks(q, 1, options, events)
        deep = depths(1, options, events)[0]
        unlike = [deep[option] for option in ones if ones[option] != others[option]]
        self.assertIn(oracle_two.parting_depth(p, q), unlike, (str(p), str(q), told))

    def assert_compared(self, p, q):
        """Check what is told of two books against the oracle, whichever one is first."""
        for one, other in ((p, q), (q, p)):
            same = oracle_two.parting_depth(one, other) is None
            self.assertIs(alike(one, other), same, (str(one), str(other)))
            if same:
                self.assertIsNone(parting(one, other))
            else:
                self.assert_parting(one, other)

    def assert_alike(self, wanted, p, q):
        self.assertIs(alike(p, q), wanted, (str(p), str(q)))
        self.assert_compared(p, q)

    def assert_twins(self, book, *parts):
        self.assertEqual(twins(book), tuple(tuple(part.split()) for part in parts), str(book))
        self.assertEqual(twins(book), oracle_two.twins(book))


class Interface(Comparing):
    def test_parameters_and_where_things_are_defined(self):
        for told, words in ((alike, ["p", "q"]), (parting, ["p", "q"]), (twins, ["book"])):
            self.assertEqual(list(inspect.signature(told).parameters), words)
            self.assertEqual(told.__module__, "forkpolls.comparing")
            self.assertIs(getattr(comparing, told.__name__), told)

    def test_arguments_by_name(self):
        self.assertIs(alike(q=POOR, p=GOOD), False)
        self.assertIsNone(parting(q=GOOD, p=GOOD))
        self.assertEqual(twins(book=GOOD), (("none",), ("in",)))

    def test_the_same_call_returns_an_equal_result(self):
        first = alike(GOOD, POOR), parting(GOOD, POOR), twins(POOR)
        alike(POOR, book_of()), parting(book_of(), GOOD), twins(book_of("yes a to b by 1"))
        self.assertEqual((alike(GOOD, POOR), parting(GOOD, POOR), twins(POOR)), first)
        self.assertEqual(str(GOOD), "\n".join(LINES))

    def test_what_twins_returns_is_of_tuples(self):
        self.assertIsInstance(twins(GOOD), tuple)
        for part in twins(GOOD):
            self.assertIsInstance(part, tuple)


class Alike(Comparing):
    def test_a_book_is_like_itself(self):
        for seed in range(30):
            book = oracle.random_book(seed, 3)
            self.assert_alike(True, book, book)

    def test_totals_mean_nothing(self):
        p = book_of("yes a to b by 1", "join b b to b by -1", "part b to b b by 0 1")
        q = book_of("yes a to b by -3", "join b b to b by 2", "part b to b b by 3 -2")
        self.assert_alike(True, p, q)

    def test_what_books_keep_means_nothing(self):
        for many in range(6):
            for keeps in itertools.combinations(EDITS, many):
                self.assert_alike(True, GOOD, Book(GOOD.marks, GOOD.counted, keeps, GOOD.rows))

    def test_marks_by_other_names(self):
        self.assert_alike(True, GOOD, oracle_two.renamed(GOOD, {"none": "in", "in": "out"}))
        self.assert_alike(False, GOOD, oracle_two.renamed(POOR, {"none": "in", "in": "out"}))

    def test_marks_in_another_order(self):
        rows = ("yes a to b by 1", "word b to c by 0", "no c to a by -1")
        self.assert_alike(True, book_of(*rows, counted="b c"), book_of(*rows, marks="a c b", counted="b c"))
        # The first mark is the blank, so this is another book.
        self.assert_alike(False, book_of("yes a to b by 1"), book_of("yes a to b by 1", marks="c a b"))

    def test_unlike_numbers_of_marks(self):
        # Two counted marks that do the same are one.
        two = book_of("yes a to b by 1", "no b to a by -1", marks="a b", counted="b")
        three = book_of("yes a to b by 1", "yes b to c by 0", "yes c to b by 0", "no any to a by 0", counted="b c")
        self.assert_alike(True, two, three)
        self.assert_alike(False, two, book_of("yes a to b by 1", "yes b to c by 0", "no b to a by 0", counted="b c"))
        one = Book(["x"], [], [], [])
        self.assert_alike(True, one, book_of("yes a to c by 0", "join c c to c by 0"))
        self.assert_alike(False, one, two)

    def test_unlike_blanks(self):
        p = book_of("yes a to b by 1", "no b to a by -1", marks="a b")
        q = book_of("yes c to b by 1", "no b to c by -1", marks="c b")
        self.assert_alike(True, p, q)
        # Here both marks that are not counted do the same.
        q = book_of("yes any to b by 1", "no any to a by 0", marks="c a b")
        self.assert_alike(True, p, q)

    def test_books_without_counted_marks(self):
        self.assert_alike(True, book_of("yes a to b by 1", counted=""), book_of(counted=""))

    def test_a_counted_mark_that_never_comes(self):
        self.assert_alike(True, book_of(counted="c"), book_of(counted="b c"))

    def test_one_row_of_each_kind(self):
        # Without the row a voter is counted there, or is not.
        rows = [
            "yes a to b by 1", "no a to b by 1", "word a to b by 1", "cut a to b by 1", "back a to b by 1", "join a a to b by 1",
            "part a to b a by 1 0", "part a to a b by 0 1", "late yes a to b by 1", "late no a to b by 1",
        ]
        for row in rows:
            self.assert_alike(False, book_of(row), book_of())
            for other in rows:
                self.assertIs(alike(book_of(row), book_of(other)), row == other)

    def test_struck_options_are_not_judged(self):
        p = book_of("strike a to b by 1", "back b to a by -1")
        self.assert_alike(True, p, book_of())
        self.assert_alike(False, p.without(1), book_of())
        self.assertEqual(parting(p.without(1), book_of()), (1, ("strike 0", "back 0")))

    def test_late_deeds_take_an_edit(self):
        rows = ("late yes a to b by 1", "word a to c by 0", "join any any to c by 0", "part any to c c by 0 0")
        # There is no blank behind an edit, so the late row is never done.
        self.assert_alike(True, book_of(*rows), book_of(*rows[1:]))
        for at in (1, 2, 3):
            self.assert_alike(False, book_of(*rows).without(at), book_of(*rows[1:]).without(at - 1))

    def test_late_deeds_that_are_kept_by_one_book_only(self):
        rows = ("late yes a to b by 1", "late no b to a by -1")
        self.assert_alike(True, book_of(*rows, keeps="word"), book_of(*rows, keeps="join part"))

    def test_a_late_deed_does_not_come_to_what_was_brought_back(self):
        rows = ("late yes c to b by 1", "back a to c by 0", "cut c to a by 0", "word c to a by 0", "strike c to a by 0")
        rows = (*rows, "yes c to a by 0", "no c to a by 0", "join any any to a by 0", "part any to a a by 0 0")
        self.assert_alike(True, book_of(*rows), book_of(*rows[1:]))

    def test_other_marks_behind_the_right_side(self):
        p = book_of("yes any to b by 1", "part b to b c by 0 0")
        self.assert_alike(True, p, book_of("yes any to b by 1", "part b to b a by 0 0"))
        self.assert_alike(False, p, book_of("yes any to b by 1", "part b to b b by 0 1"))
        self.assert_alike(False, p, book_of("yes any to b by 1", "part b to c c by -1 0"))

    def test_which_option_is_first(self):
        for here, there in (("a", "b"), ("b", "a")):
            row = f"join {here} {there} to c by 0"
            p = book_of("yes a to b by 1", row, "join any any to a by 0")
            q = book_of("yes a to b by 1", row.replace("c", "b"), "join any any to a by 0")
            self.assert_alike(False, p, q)
            options, events = parting(p, q)
            self.assertEqual((options, len(events)), (2, 2))


class Parting(Comparing):
    def test_the_good_and_the_poor_one(self):
        self.assert_parting(GOOD, POOR)
        self.assertEqual(oracle_two.parting_depth(GOOD, POOR), 2)

    def test_a_nested_joining(self):
        rows = [f"join {one} {one} to {two} by 0" for one, two in (("a", "b"), ("b", "c"))]
        p = book_of(*rows, "join any any to a by 0", "cut c to d by 1", marks="a b c d", counted="d")
        q = book_of(marks="a", counted="")
        self.assert_compared(p, q)
        options, events = parting(p, q)
        self.assertEqual((options, len(events)), (4, 4))

    def test_no_story_of_few_events_is_less_deep(self):
        stories = self.few_events()
        for seed in range(25):
            p, q = oracle.random_book(seed, 3, 8), oracle.near_book(seed, GOOD)
            told, least = oracle_two.parting_depth(p, q), 99
            for events in stories:
                ones, others = counted_marks(p, 1, 2, events), counted_marks(q, 1, 2, events)
                deep = depths(1, 2, events)[0]
                least = min([least, *[deep[option] for option in ones if ones[option] != others[option]]])
            # Among the stories are all that take one event.
            self.assertTrue(told == least == 1 or (told or 99) <= least, (str(p), str(q)))
            self.assertEqual(told == 1, least == 1)

    def few_events(self):
        """Return all stories of two events or fewer, and some of three, for one voter and two options."""
        words = [f"{kind} 0 {at}" for kind in ("yes", "no", "late yes", "late no", "cut") for at in range(4)]
        words += [f"{kind} {at}" for kind in ("word", "strike", "back", "part") for at in range(4)]
        words += [f"join {here} {there}" for here in range(4) for there in range(4)]
        found, longest = [()], [()]
        for many in (1, 2, 3):
            tried = [(*events, word) for events in longest for word in words]
            longest = [events for events in tried if not isinstance(oracle.play(GOOD, 1, 2, events), int)]
            found += longest if many < 3 else random.Random(3).sample(longest, 200)
        return found

    def test_polls_of_several_voters_by_chance(self):
        dice = random.Random(18)
        for seed in range(40):
            p = oracle.near_book(seed, GOOD)
            q = oracle.near_book(seed + 1000, GOOD)
            for _ in range(10):
                events = oracle.random_events(dice, p, 2, 3, 15)
                if counted_marks(p, 2, 3, events) != counted_marks(q, 2, 3, events):
                    self.assertFalse(alike(p, q))

    def test_books_by_chance(self):
        for seed in range(150):
            self.assert_compared(oracle.random_book(seed, 3), oracle.random_book(seed + 5000, 3))

    def test_books_near_each_other(self):
        same = 0
        for seed in range(150):
            p = oracle.random_book(seed, 3)
            if len(p) == 0:
                continue
            q = oracle_two.with_marks_in_other_order(p.without(seed % len(p)), seed)
            self.assert_compared(p, q)
            same += alike(p, q)
        self.assertTrue(20 < same < 130)

    def test_somewhat_beyond_the_limits(self):
        for seed in range(20):
            self.assert_compared(oracle.random_book(seed, 4), oracle.near_book(seed, GOOD))


class Twins(Comparing):
    def test_counted_or_not(self):
        self.assert_twins(book_of(marks="a b c d", counted="b d"), "a c", "b d")
        self.assert_twins(book_of(marks="a b c", counted=""), "a b c")
        self.assert_twins(book_of(marks="a b c", counted="b c"), "a", "b c")
        self.assert_twins(book_of(marks="a", counted=""), "a")

    def test_the_order_of_marks_and_parts(self):
        self.assert_twins(book_of(marks="z y a b", counted="b y"), "z a", "y b")
        self.assert_twins(book_of(marks="d c b a", counted="a"), "d c b", "a")
        self.assert_twins(book_of("yes b to c by 0", "no d to c by 0", marks="a d c b", counted="c"), "a", "d", "c", "b")

    def test_each_kind_of_step(self):
        for kind in oracle.STEPS:
            self.assert_twins(book_of(f"{kind} c to b by 1", counted="b"), "a", "b", "c")
            self.assert_twins(book_of(f"{kind} any to b by 1", counted="b"), "a c", "b")

    def test_the_first_mark_of_a_joining(self):
        # Joined to a counted mark this one is not counted any more.
        rows = ("join c b to a by -2", "join b c to b by -1", "join a any to a by 0", "join any a to a by 0", "join any any to b by 0")
        self.assert_twins(book_of(*rows, counted="b c"), "a", "b", "c")

    def test_the_second_mark_of_a_joining(self):
        self.assert_twins(book_of("join b c to a by -2", "join any any to one by 0", counted="b c"), "a", "b", "c")
        self.assert_twins(book_of("join b any to a by -2", counted="b"), "a c", "b")
        # Only as second ones the last two marks are unlike.
        self.assert_twins(book_of("join b d to a by -2", marks="a b c d", counted="b c d"), "a", "b", "c", "d")
        self.assert_twins(
            book_of("join b d to a by -2", "join c d to a by -2", "join d d to a by -2", marks="a b c d", counted="b c d"),
            "a", "b c", "d")

    def test_the_left_side_of_a_parting(self):
        self.assert_twins(book_of("part c to a a by -1 0", counted="b c"), "a", "b", "c")

    def test_the_right_side_of_a_parting(self):
        self.assert_twins(book_of("part c to c c by 0 1", counted="b c"), "a", "b", "c")
        self.assert_twins(book_of("part b to b b by 0 1", "part c to b c by 0 1", counted="b c"), "a", "b c")

    def test_parts_that_are_parted_step_by_step(self):
        rows = ("yes b to c by 0", "yes c to d by 0", "yes d to e by 1", "yes e to e by 0")
        self.assert_twins(book_of(*rows, marks="a b c d e", counted="e"), "a", "b", "c", "d", "e")
        self.assert_twins(book_of(*rows[:3], marks="a b c d e", counted="b c d e"), "a", "b c d e")

    def test_totals_and_what_is_kept_mean_nothing(self):
        self.assert_twins(book_of("yes b to b by 3", "part b to b a by 2 1", counted="b c", keeps="cut word"), "a", "b c")

    def test_marks_that_never_come_are_parted_too(self):
        self.assert_twins(book_of("word c to b by 1"), "a", "b", "c")

    def test_books_by_chance(self):
        several = 0
        for seed in range(300):
            book = oracle.random_book(seed, 4, 5)
            self.assertEqual(twins(book), oracle_two.twins(book), str(book))
            several += len(twins(book)) < len(book.marks)
        self.assertGreater(several, 30)

    def test_a_book_is_like_itself_without_its_twins(self):
        # The first one of each part stands for all of it.
        for seed in range(100):
            book = oracle.random_book(seed, 3, 6)
            names = {mark: part[0] for part in twins(book) for mark in part}
            marks = [part[0] for part in twins(book)]
            counted = [mark for mark in marks if mark in book.counted]
            steps = [
                f"{kind} {mark} to {names[book.step(kind, mark)[0]]} by 0" for kind in oracle.STEPS for mark in marks]
            joins = [f"join {one} {two} to {names[book.joined(one, two)[0]]} by 0" for one in marks for two in marks]
            parts = [
                f"part {mark} to {names[book.parted(mark)[0]]} {names[book.parted(mark)[1]]} by 0 0" for mark in marks]
            fewer = book_of(*steps, *joins, *parts, marks=" ".join(marks), counted=" ".join(counted))
            self.assert_alike(True, book, fewer)


class Examples(Comparing):
    def test_the_example_of_the_document(self):
        self.assertEqual((alike(GOOD, POOR), parting(GOOD, GOOD), twins(GOOD)), (False, None, (("none",), ("in",))))


if __name__ == "__main__":
    unittest.main()
