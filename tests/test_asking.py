"""Promise 17: at which edits voters must be asked anew, and which rows are needless."""

import inspect
import itertools
import unittest

from forkpolls import asking
from forkpolls.asking import least_asks, needless, repairs
from forkpolls.errors import InvalidFault
from tests import oracle
from tests.books import EDITS, FAULTS, GOOD, LINES, POOR, book_of
from tests.values import ANY_VALUES

ASKED = (least_asks, needless, repairs)


def happening(book, wanted):
    """Return the wanted faults that happen, by the oracle."""
    return {fault for fault in wanted if oracle.fault_depth(book, fault) is not None}


def slow_least_asks(book, wanted):
    """Return what `least_asks` has to return, by looking at all proper parts of each set."""
    sets = [kinds for many in range(6) for kinds in itertools.combinations(EDITS, many)]
    helps = {kinds: not happening(book.asking(kinds), wanted) for kinds in sets}
    return tuple(
        kinds for kinds in sets if helps[kinds] and not any(helps[less] for less in sets if set(less) < set(kinds)))


class Asking(unittest.TestCase):
    def assert_asked(self, book, wanted):
        """Check all that is told of a book against the oracle."""
        before = happening(book, wanted)
        behind = [happening(book.without(at), wanted) for at in range(len(book))]
        self.assertEqual(least_asks(book, wanted), slow_least_asks(book, wanted), (str(book), wanted))
        self.assertEqual(needless(book, wanted), tuple(at for at, one in enumerate(behind) if one == before))
        self.assertEqual(repairs(book, wanted), tuple(at for at, one in enumerate(behind) if not one))


class Interface(Asking):
    def test_parameters_and_where_things_are_defined(self):
        for asked in ASKED:
            self.assertEqual(list(inspect.signature(asked).parameters), ["book", "wanted"])
            self.assertEqual(asked.__module__, "forkpolls.asking")
            self.assertIs(getattr(asking, asked.__name__), asked)

    def test_arguments_by_name(self):
        self.assertEqual(least_asks(wanted=["side"], book=POOR), (("join",),))
        self.assertEqual(needless(wanted=["side"], book=GOOD), (0, 1, 2, 3, 4, 6))
        self.assertEqual(repairs(wanted=["side"], book=POOR), ())

    def test_lists_and_tuples(self):
        for asked in ASKED:
            for wanted in ([], ["side"], ["side", "apart", "side"]):
                self.assertEqual(asked(POOR, wanted), asked(POOR, tuple(wanted)))
                self.assertIsInstance(asked(POOR, wanted), tuple)
        for kinds in least_asks(GOOD, ["side"]) + least_asks(POOR, ["side"]):
            self.assertIsInstance(kinds, tuple)

    def test_arguments_do_not_change(self):
        wanted = ["side", "apart", "side"]
        for asked in ASKED:
            before = asked(POOR, wanted)
            self.assertEqual(wanted, ["side", "apart", "side"])
            asked(GOOD, ["missed"])
            self.assertEqual(asked(POOR, wanted), before)
        self.assertEqual(str(POOR), "\n".join(LINES[:8] + LINES[9:]))


class Wrong(Asking):
    def test_any_values_in_the_place_of_a_wanted_fault(self):
        for value in (*ANY_VALUES, "", "Side", "side ", "faults", ["side"], ("side",), [["again"]]):
            for asked in ASKED:
                for wanted in ([value], (value,), ["side", value], ("apart", "side", value, "side")):
                    for book in (GOOD, book_of()):
                        with self.assertRaises(InvalidFault):
                            asked(book, wanted)


class LeastAsks(Asking):
    def test_no_set_helps(self):
        # Nobody can be asked anew at a deed.
        book = book_of("yes a to b by 1")
        self.assertEqual(least_asks(book, ["stuck"]), ())
        self.assertEqual(least_asks(book_of("strike any to same by 1"), ["apart"]), ())

    def test_the_empty_set(self):
        self.assertEqual(least_asks(GOOD, FAULTS), ((),))
        self.assertEqual(least_asks(GOOD, ["apart"]), ((),))

    def test_no_wanted_fault(self):
        for book in (GOOD, POOR, book_of("yes a to b by 1")):
            self.assertEqual(least_asks(book, []), ((),))

    def test_wanted_twice(self):
        self.assertEqual(least_asks(POOR, ["side", "side"]), (("join",),))
        self.assertEqual(least_asks(POOR, ["missed", "side", "missed"]), least_asks(POOR, ["side", "missed"]))

    def test_several_kinds_at_once(self):
        # Each of these edits makes a counted mark of the blank.
        rows = [f"{kind} none to in by 1" for kind in ("cut", "back")]
        book = book_of(*rows, *LINES[3:], marks="none in", counted="in", keeps=" ".join(EDITS))
        self.assertEqual(least_asks(book, ["false"]), (("back", "cut"),))
        self.assertEqual(least_asks(book.without(1), ["false"]), (("cut",),))
        # An option whose meaning was not kept is known by no late deed, which may be counted.
        self.assertEqual(least_asks(GOOD.asking(["word"]), ["false"]), ())

    def test_several_sets(self):
        # An edit makes the mark `c`, of which a cut makes a counted one.
        rows = ("word a to c by 0", "cut c to b by 1", "back a to c by 0")
        book = book_of(*rows[:2], keeps=" ".join(EDITS))
        self.assertEqual(least_asks(book, ["false"]), (("cut",), ("word",)))
        self.assert_asked(book, ["false"])

    def test_shorter_ones_first(self):
        rows = ("word a to c by 0", "join c any to b by 0", "back a to c by 0")
        book = book_of(*rows, keeps=" ".join(EDITS))
        self.assertEqual(least_asks(book, ["false"]), (("join",), ("back", "word")))
        self.assert_asked(book, ["false"])

    def test_a_set_that_helps_where_a_greater_one_does_not(self):
        # A joining that is not kept makes a late choice false.
        book = book_of(*LINES[3:], "word none to in by 1", marks="none in", counted="in", keeps=" ".join(EDITS))
        self.assertEqual(least_asks(book.asking(["join"]), ["false"]), ())
        for many in range(6):
            for kinds in itertools.combinations(EDITS, many):
                self.assert_asked(GOOD.asking(kinds), ["false", "missed"])

    def test_one_edit_alone_that_does_harm(self):
        # Each row is wrong in its own way, and voters asked at its edit never come to it.
        for kind, rows in {
            "back": ("back a to b by 0",), "cut": ("cut a to b by 0",), "word": ("word a to a by 1", "word a to b by 0"),
            "join": ("join a a to b by 0", "join any any to one by -1"),
            "part": ("part a to b a by 0 0", "part a to a b by 0 0", "part a to a a by 0 1", "part a to a a by 1 0"),
        }.items():
            for row in rows:
                self.assertEqual(least_asks(book_of(row), ["apart"]), ((kind,),))
                self.assert_asked(book_of(row), ["apart"])
                self.assert_asked(book_of(row), FAULTS)


class Rows(Asking):
    def test_needless_rows(self):
        book = book_of("yes a to b by 1", "no b to a by -1", "no b to a by -1", "word c to a by 0")
        self.assertEqual(needless(book, ["stuck"]), (0, 1, 2, 3))
        self.assertEqual(needless(book.without(1), ["stuck"]), (0, 2))

    def test_a_book_without_rows(self):
        for asked in (needless, repairs):
            self.assertEqual(asked(book_of(), FAULTS), ())

    def test_no_wanted_fault(self):
        for book in (GOOD, POOR):
            for asked in (needless, repairs):
                self.assertEqual(asked(book, ()), tuple(range(len(book))))

    def test_rows_that_repair(self):
        book = book_of("yes a to b by 1", "no b to a by -1", "word b to a by 0", "join any any to a by 0", "strike b to a by 0")
        for row, fault in ((2, "apart"), (4, "apart")):
            self.assertNotIn(row, repairs(book, [fault]))
        self.assertEqual(repairs(book.without(4), ["stuck"]), (0, 2, 3))
        self.assertEqual(repairs(book_of("yes a to b by 1"), ["stuck"]), (0,))
        self.assertEqual(needless(book_of("yes a to b by 1"), ["stuck"]), ())

    def test_the_same_ones_have_to_happen(self):
        # Without the row another one of the wanted faults happens, so it is not needless.
        book = book_of("yes a to b by 1", marks="a b")
        self.assertEqual(needless(book, ["stuck", "missed"]), ())
        self.assertEqual(repairs(book, ["stuck", "missed"]), ())
        self.assertEqual(repairs(book, ["stuck"]), (0,))

    def test_the_good_book(self):
        self.assertEqual(repairs(GOOD, ["side"]), (0, 1, 2, 3, 4, 6))
        self.assertEqual(needless(GOOD, ["stuck"]), (0, 2, 3, 4, 5, 6))
        for fault in FAULTS:
            self.assert_asked(GOOD, [fault])


class Compared(Asking):
    def test_books_near_a_good_one(self):
        for seed in range(40):
            self.assert_asked(oracle.near_book(seed, GOOD), FAULTS[seed % 6:seed % 6 + 1 + seed % 3])

    def test_books_by_chance(self):
        for seed in range(8):
            self.assert_asked(oracle.random_book(seed, 3, 8), [FAULTS[seed % 6], "side"])


class Examples(Asking):
    def test_the_example_of_the_document(self):
        self.assertEqual(
            (least_asks(POOR, ["side"]), least_asks(GOOD, ["side"]), needless(GOOD, ["side"])), ((("join",),), ((),), (0, 1, 2, 3, 4, 6)))


if __name__ == "__main__":
    unittest.main()
