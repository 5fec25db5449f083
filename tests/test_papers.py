"""Promise 16: papers, such as hold and such as do not."""

import inspect
import random
import unittest

from forkpolls import papers
from forkpolls.books import Book
from forkpolls.deciding import depth, happens, standings
from forkpolls.errors import InvalidFault
from forkpolls.papers import paper, paper_holds
from forkpolls.rows import Step
from tests import oracle
from tests.books import EDITS, FAULTS, GOOD, POOR, book_of
from tests.values import ANY_VALUES, nested

# All that comes about by the good book.
ALL = tuple(one for one, _ in standings(GOOD))


def everything(book):
    """Return all standings that there can be by the marks of a book."""
    return tuple((mark, known, late) for mark in book.marks for known in (False, True) for late in ("", "kept", "broken", "gone"))


class Papers(unittest.TestCase):
    def assert_holds(self, wanted, value, fault="false", book=GOOD):
        self.assertIs(paper_holds(book, fault, value), wanted, (fault, value))


class Interface(Papers):
    def test_parameters_and_where_things_are_defined(self):
        for told, words in ((paper, ["book", "fault"]), (paper_holds, ["book", "fault", "value"])):
            self.assertEqual(list(inspect.signature(told).parameters), words)
            self.assertEqual(told.__module__, "forkpolls.papers")
            self.assertIs(getattr(papers, told.__name__), told)

    def test_arguments_by_name(self):
        self.assertIs(paper_holds(value=paper(fault="side", book=GOOD), fault="side", book=GOOD), True)

    def test_any_values_in_the_place_of_a_fault(self):
        for value in (*ANY_VALUES, "", "Side", "side ", "faults", ["side"], ("side",)):
            for told in (lambda: paper(GOOD, value), lambda: paper_holds(GOOD, value, ALL), lambda: paper_holds(GOOD, value, None)):
                with self.assertRaises(InvalidFault):
                    told()


class Made(Papers):
    def test_the_good_book(self):
        for fault in FAULTS:
            told = paper(GOOD, fault)
            self.assertIsInstance(told, tuple)
            self.assertTrue(set(ALL) <= set(told))
            self.assert_holds(True, told, fault)
            self.assertTrue(oracle.is_paper(GOOD, fault, told))

    def test_none_if_the_fault_happens(self):
        for fault in FAULTS:
            self.assertEqual(paper(POOR, fault) is None, happens(POOR, fault))
        self.assertIsNone(paper(Book(["a"], [], [], []), "missed"))

    def test_books_by_chance(self):
        made = {fault: 0 for fault in FAULTS}
        for seed in range(150):
            for book in (oracle.random_book(seed), oracle.near_book(seed, GOOD)):
                for fault in FAULTS:
                    told = paper(book, fault)
                    if depth(book, fault) is None:
                        made[fault] += 1
                        self.assertTrue(oracle.is_paper(book, fault, told))
                        self.assert_holds(True, told, fault, book)
                    else:
                        self.assertIsNone(told)
                        self.assert_holds(False, tuple(one for one, _ in standings(book)), fault, book)
        self.assertGreater(min(made.values()), 20)


class Holds(Papers):
    def test_in_another_order(self):
        dice = random.Random(3)
        for fault in FAULTS:
            for _ in range(10):
                self.assert_holds(True, tuple(dice.sample(ALL, len(ALL))), fault)

    def test_a_standing_twice(self):
        for fault in FAULTS:
            self.assert_holds(True, (*ALL, ALL[2], ALL[2]), fault)
            self.assert_holds(True, ALL * 16, fault)

    def test_one_standing_left_out(self):
        for fault in FAULTS:
            for at in range(len(ALL)):
                self.assert_holds(False, ALL[:at] + ALL[at + 1:], fault)

    def test_one_standing_put_in(self):
        for fault in FAULTS:
            for one in everything(GOOD):
                self.assert_holds(oracle.is_paper(GOOD, fault, (*ALL, one)), (*ALL, one), fault)
        # What never comes about may stand there, if what becomes of it does, too.
        more = (("none", True, "kept"), ("none", True, ""), ("none", True, "gone"))
        self.assert_holds(True, (*ALL, *more))
        self.assert_holds(False, (*ALL, *more), "missed")
        self.assert_holds(False, (*ALL, *more[:2]))
        self.assert_holds(False, (*ALL, ("in", False, "")))
        self.assert_holds(True, (*ALL, ("in", False, "gone"), ("in", False, ""), ("in", False, "kept")), "side")
        self.assert_holds(False, (*ALL, ("in", False, "gone"), ("in", False, "")), "side")
        self.assert_holds(False, (*ALL, ("in", False, "gone")), "side")

    def test_everything_there_is(self):
        for fault in FAULTS:
            for book in (GOOD, POOR, book_of(), book_of("yes any to b by 1", "no any to a by 0", "join any any to a by 0")):
                value = everything(book)
                self.assert_holds(oracle.is_paper(book, fault, value), value, fault, book)
        self.assert_holds(True, everything(GOOD), "side")
        self.assert_holds(True, everything(GOOD), "apart")
        self.assert_holds(True, everything(GOOD), "stuck")
        self.assert_holds(False, everything(GOOD), "false")

    def test_lists(self):
        self.assert_holds(False, list(ALL))
        self.assert_holds(False, tuple(list(one) for one in ALL))
        self.assert_holds(False, (*ALL, list(ALL[0])))
        self.assert_holds(False, (ALL,))
        self.assert_holds(False, [ALL])

    def test_pairs_with_depths_are_no_standings(self):
        self.assert_holds(False, standings(GOOD))

    def test_the_empty_paper(self):
        for fault in FAULTS:
            self.assert_holds(False, (), fault)

    def test_any_values(self):
        for fault in FAULTS:
            for value in ANY_VALUES:
                self.assert_holds(False, value, fault)
                self.assert_holds(False, (value,), fault)
                self.assert_holds(False, (*ALL, value), fault)
        self.assert_holds(False, nested(ALL[0], 6))

    def test_other_forms_of_a_standing(self):
        for one in (
            ("in", 1, ""), ("none", 0, ""), ("none", None, ""), ("none", "False", ""), ("none", False), ("none", False, "", ""),
            ("none", False, None), ("none", False, "late"), ("none", False, "Gone"), ("none", False, False), ("other", False, ""),
            ("any", False, ""), (None, False, ""), (["none"], False, ""), ("none", False, ["kept"]), (False, "none", ""), "in",
            ("none", (False,), ""), ("", False, ""), ("none", False, " "), (GOOD, False, ""), ("in", True, Step("yes", "in", "in", 0)),
        ):
            self.assert_holds(False, (*ALL, one))
            self.assert_holds(False, (one, *ALL))
            for at, held in enumerate(ALL):
                if one == held:
                    self.assert_holds(False, (*ALL[:at], one, *ALL[at + 1:]))

    def test_marks_of_another_book(self):
        book = book_of("yes a to b by 1", "no b to a by -1", marks="a b")
        self.assert_holds(False, ALL, "stuck", book)
        self.assert_holds(True, paper(book, "stuck"), "stuck", book)
        self.assert_holds(False, paper(book, "stuck"), "stuck", GOOD)

    def test_a_paper_for_one_fault_only(self):
        for fault in FAULTS:
            self.assert_holds(fault not in ("apart", "missed", "side"), tuple(one for one, _ in standings(POOR)), fault, POOR)

    def test_faults_that_only_struck_options_would_meet(self):
        book = book_of("strike a to b by 1", "strike c to b by 1", "back b to a by -1", "yes any to c by 0", "join any any to a by 0")
        for fault in ("false", "stuck", "side"):
            self.assertIn(("b", False, "gone"), paper(book, fault))
            self.assert_holds(True, paper(book, fault), fault, book)

        rows = ("strike a to c by 0", "back any to a by 0", "join c any to c by 0", "join any any to a by 0")
        self.assertIn(("c", False, "gone"), paper(book_of(*rows), "side"))
        self.assert_holds(True, paper(book_of(*rows), "side"), "side", book_of(*rows))
        self.assert_holds(False, paper(book_of(*rows), "side"), "side", book_of("word a to c by 0", *rows))

    def test_a_standing_to_which_nothing_leads(self):
        # Whatever is done there, it is not known any more, or it is counted.
        book = Book(GOOD.marks, GOOD.counted, (), GOOD.rows[:2] + GOOD.rows[4:])
        more = (("none", True, ""), ("none", True, "gone"))
        self.assert_holds(True, paper(book, "missed"), "missed", book)
        self.assert_holds(True, (*paper(book, "missed"), more[1]), "missed", book)
        self.assert_holds(False, (*paper(book, "missed"), *more), "missed", book)
        self.assert_holds(True, (*paper(book, "again"), *more), "again", book)

    def test_steps_by_which_a_fault_is_met(self):
        for fault, row in (("again", "late no a to same by 1"), ("apart", "back any to same by 1"), ("apart", "part a to a a by 0 1")):
            book = book_of(row, "join any any to a by 0", keeps=" ".join(EDITS))
            held = tuple(one for one, _ in standings(book))
            self.assert_holds(False, held, fault, book)
            self.assert_holds(True, held, "side", book)

    def test_papers_by_chance(self):
        seen = {True: 0, False: 0}
        for seed in range(200):
            dice = random.Random(seed)
            book = oracle.near_book(seed, GOOD)
            held = [one for one, _ in standings(book)]
            for fault in FAULTS:
                more = [one for one in everything(book) if dice.random() < 0.15]
                less = [one for one in held if dice.random() < 0.95]
                for value in (tuple(held + more), tuple(less), tuple(less + more)):
                    wanted = oracle.is_paper(book, fault, value)
                    self.assert_holds(wanted, value, fault, book)
                    seen[wanted] += 1
        self.assertGreater(min(seen.values()), 100)

    def test_the_value_does_not_change(self):
        value = (*ALL, ["none", False, ""])
        paper_holds(GOOD, "false", value)
        self.assertEqual(value, (*ALL, ["none", False, ""]))
        self.assertEqual(paper(GOOD, "false"), paper(GOOD, "false"))


class Examples(Papers):
    def test_the_example_of_the_document(self):
        self.assertEqual(
            (paper_holds(GOOD, "false", paper(GOOD, "false")), paper_holds(GOOD, "false", ()), paper(POOR, "side")), (True, False, None))


if __name__ == "__main__":
    unittest.main()
