"""Promises 6 and 7: books, what they tell of marks, and asking anew."""

import inspect
import itertools
import unittest

from forkpolls.books import Book
from forkpolls.errors import InvalidBook, NoMark, NoRow
from forkpolls.rows import Join, Part, Row, Step
from tests.values import ANY_VALUES, NO_NAMES, NO_STRINGS

EDITS = ("back", "cut", "join", "part", "word")
KINDS = ("yes", "no", "late yes", "late no", "word", "strike", "back", "cut")
LINES = (
    "marks none in", "counted in", "keeps back cut join part word", "yes none to in by 1", "no in to none by -1",
    "late yes none to in by 1", "late no in to none by -1", "join in in to one by -1", "join none any to other by 0",
    "part in to in in by 0 1",
)


def book_of(*rows, marks=("a", "b", "c"), counted=("b",), keeps=()):
    """Return a book with the rows that have these texts."""
    return Book(marks, counted, keeps, [Row.read(text) for text in rows])


def texts(book):
    """Return the texts of the rows of a book."""
    return [str(row) for row in book.rows]


class Interface(unittest.TestCase):
    def test_parameters(self):
        self.assertEqual(list(inspect.signature(Book).parameters), ["marks", "counted", "keeps", "rows"])
        for name, words in {
            "step": ["kind", "mark"], "joined": ["here", "there"], "parted": ["mark"], "without": ["at"], "asking": ["kinds"],
        }.items():
            self.assertEqual(list(inspect.signature(vars(Book)[name]).parameters), ["self", *words])
        self.assertEqual(list(inspect.signature(Book.read).parameters), ["text"])

    def test_where_things_are_defined(self):
        self.assertEqual(Book.__module__, "forkpolls.books")
        for name in ("read", "__eq__", "__str__", "__len__", "__getitem__"):
            self.assertIn(name, vars(Book))
        self.assertIsInstance(vars(Book)["read"], classmethod)

    def test_arguments_by_name(self):
        book = Book(rows=[Step("yes", "a", "b", 1)], keeps=[], counted=["b"], marks=["a", "b"])
        self.assertEqual(book.step(mark="a", kind="yes"), ("b", 1))
        self.assertEqual(book.joined(there="a", here="b"), ("b", 0))
        self.assertEqual(book.parted(mark="b"), ("b", "a", 0, 0))
        self.assertEqual(len(book.without(at=0)), 0)
        self.assertEqual(len(book.asking(kinds=["cut"])), 3)
        self.assertEqual(Book.read(text=str(book)), book)


class Made(unittest.TestCase):
    def test_attributes(self):
        rows = [Step("yes", "a", "b", 1), Part("any", "same", "c", 0, -1), Join("a", "a", "one", 0)]
        book = Book(["a", "b", "c"], ["b"], ["word", "cut"], rows)
        self.assertEqual(book.marks, ("a", "b", "c"))
        self.assertEqual(book.counted, ("b",))
        self.assertEqual(book.keeps, ("cut", "word"))
        self.assertEqual(book.rows, tuple(rows))
        self.assertIs(book.rows[0], rows[0])
        self.assertEqual(book.blank, "a")

    def test_attributes_are_tuples(self):
        for kind in (list, tuple):
            book = Book(kind(["a", "b"]), kind(["b"]), kind(["word", "back"]), kind([Step("yes", "a", "b", 1)]))
            for value in (book.marks, book.counted, book.keeps, book.rows):
                self.assertIsInstance(value, tuple)

    def test_counted_stands_in_the_order_of_marks(self):
        marks = ("z", "m", "b", "a")
        for many in range(4):
            for counted in itertools.permutations(marks[1:], many):
                book = Book(marks, counted, (), ())
                self.assertEqual(book.counted, tuple(mark for mark in marks if mark in counted))

    def test_keeps_stands_ascending(self):
        for many in range(6):
            for keeps in itertools.permutations(EDITS, many):
                self.assertEqual(Book(["a"], [], keeps, []).keeps, tuple(sorted(keeps)))

    def test_the_blank_alone(self):
        book = Book(["none"], [], [], [])
        self.assertEqual((book.marks, book.counted, book.keeps, book.rows, book.blank), (("none",), (), (), (), "none"))

    def test_marks_that_look_like_kinds(self):
        book = book_of("word word to cut by 1", "join back late to join by 0", "part part to same no by 0 0", marks=(
            "word", "cut", "back", "late", "join", "part", "no"), counted=("cut",))
        self.assertEqual(book.step("word", "word"), ("cut", 1))
        self.assertEqual(book.joined("back", "late"), ("join", 0))
        self.assertEqual(book.parted("part"), ("part", "no", 0, 0))

    def test_a_book_beyond_the_limits(self):
        marks = ["a", "b", "c", "d", "e", "f"]
        rows = [Step("yes", "any", "same", 0)] * 30
        book = Book(marks, marks[1:], EDITS, rows)
        self.assertEqual((len(book.marks), len(book)), (6, 30))

    def test_later_changes_to_arguments_have_no_effect(self):
        marks, counted, keeps, rows = ["a", "b", "c"], ["c", "b"], ["word", "cut"], [Step("yes", "a", "b", 1)]
        book = Book(marks, counted, keeps, rows)
        text = str(book)
        self.assertEqual((marks, counted, keeps, len(rows)), (["a", "b", "c"], ["c", "b"], ["word", "cut"], 1))
        for value in (marks, counted, keeps, rows):
            value.clear()
        self.assertEqual(str(book), text)
        self.assertEqual((book.blank, len(book), book.step("yes", "a")), ("a", 1, ("b", 1)))

    def test_books_are_not_iterable(self):
        book = book_of("yes a to b by 1")
        for use in (iter, list, tuple, lambda value: [*value], lambda value: "a" in value, dict):
            with self.assertRaises(TypeError):
                use(book)


class Wrong(unittest.TestCase):
    GOOD = (("a", "b"), ("b",), ("word",), (Step("yes", "a", "b", 1),))

    def assert_wrong(self, args, word):
        with self.assertRaises(InvalidBook) as caught:
            Book(*args)
        self.assertEqual(caught.exception.word, word, args)

    def assert_wrong_at(self, at, value):
        args = [*self.GOOD[:at], value, *self.GOOD[at + 1:]]
        self.assert_wrong(args, ("marks", "counted", "keeps", "rows")[at])

    def test_what_is_no_sequence(self):
        for at in range(4):
            for value in ANY_VALUES:
                if not isinstance(value, (list, tuple)):
                    self.assert_wrong_at(at, value)

    def test_wrong_marks(self):
        for value in ([], (), ["a", "b", "a"], ["b", "b"], [["a"]], [["a"], "b"]):
            self.assert_wrong_at(0, value)
        for name in (*NO_NAMES, *NO_STRINGS, 3):
            for marks in ([name], ["a", name, "b"], (name, "a", "b"), ("a", "b", name)):
                self.assert_wrong_at(0, marks)

    def test_wrong_counted(self):
        for value in (["a"], ["b", "b"], ["c"], ["b", "a"], [["b"]], ["b", []], ["any"], ("B",)):
            self.assert_wrong_at(1, value)
        for value in ANY_VALUES:
            if value != "b":
                self.assert_wrong_at(1, [value])
                self.assert_wrong_at(1, ("b", value))

    def test_wrong_keeps(self):
        for value in (["strike"], ["word", "word"], ["yes"], ["count"], [["word"]], ["word", None], ["back cut"], ("late yes",)):
            self.assert_wrong_at(2, value)
        for value in ANY_VALUES:
            if value not in EDITS:
                self.assert_wrong_at(2, [value])
                self.assert_wrong_at(2, ("word", value))

    def test_wrong_rows(self):
        rows = (Step, Join, Part)
        for value in ANY_VALUES:
            if not isinstance(value, rows):
                self.assert_wrong_at(3, [value])
                self.assert_wrong_at(3, (Step("yes", "a", "b", 1), value))
        self.assert_wrong_at(3, ["yes a to b by 1"])
        self.assert_wrong_at(3, [[Step("yes", "a", "b", 1)]])

    def test_the_first_of_several_wrong_ones_is_named(self):
        words = ("marks", "counted", "keeps", "rows", "mark")
        bad_row = (Step("yes", "a", "z", 0),)
        for which in itertools.product((False, True), repeat=5):
            for bad in (None, 7, "a", [[]], (None,), True, Book(["a"], [], [], [])):
                args = [bad if wrong else value for wrong, value in zip(which, self.GOOD)]
                if which[4] and not which[3]:
                    args[3] = bad_row
                if any(which):
                    self.assert_wrong(args, words[which.index(True)])

    def test_a_row_that_names_another_mark(self):
        for text in (
            "yes z to a by 0", "yes a to z by 0", "yes any to z by 0", "yes z to same by 0", "join z a to b by 0",
            "join a z to b by 0", "join a b to z by 0", "join any any to z by 0", "join z any to one by 0",
            "join any z to other by 0", "part z to a b by 0 0", "part a to z b by 0 0", "part a to b z by 0 0",
            "part z to same same by 0 0", "part any to z same by 0 0", "part any to same z by 0 0", "word word to a by 0",
        ):
            row = Row.read(text)
            self.assert_wrong((("a", "b"), ("b",), (), (row,)), "mark")
            self.assert_wrong((["a", "b"], [], ["word"], [Step("yes", "a", "b", 1), row]), "mark")
            self.assertEqual(len(Book(["a", "b", "z", "word"], [], [], [row])), 1)

    def test_rows_without_marks_fit_every_book(self):
        rows = [Step("yes", "any", "same", 1), Join("any", "any", "one", 0), Join("any", "any", "other", 0)]
        self.assertEqual(len(Book(["x"], [], [], [*rows, Part("any", "same", "same", 0, 0)])), 4)


class Telling(unittest.TestCase):
    def test_without_rows(self):
        book = book_of()
        for here in book.marks:
            for kind in KINDS:
                self.assertEqual(book.step(kind, here), (here, 0))
            for there in book.marks:
                self.assertEqual(book.joined(here, there), (here, 0))
            self.assertEqual(book.parted(here), (here, "a", 0, 0))

    def test_each_kind_of_step(self):
        for kind in KINDS:
            book = book_of(f"{kind} a to b by 3")
            for other in KINDS:
                self.assertEqual(book.step(other, "a"), ("b", 3) if other == kind else ("a", 0))
                self.assertEqual(book.step(other, "b"), ("b", 0))

    def test_the_first_step_row_that_fits(self):
        book = book_of("no any to c by 2", "yes b to same by -3", "yes any to b by 1", "yes a to c by 2")
        self.assertEqual([book.step("yes", mark) for mark in "abc"], [("b", 1), ("b", -3), ("b", 1)])
        self.assertEqual([book.step("no", mark) for mark in "abc"], [("c", 2)] * 3)
        self.assertEqual(book_of("cut any to same by -1", "cut a to b by 1").step("cut", "a"), ("a", -1))

    def test_the_first_join_row_that_fits(self):
        book = book_of("join a b to c by 1", "join b any to other by 2", "join any c to one by 3", "join any any to b by -2")
        self.assertEqual(
            {pair: book.joined(*pair) for pair in itertools.product("abc", repeat=2)},
            {("a", "a"): ("b", -2), ("a", "b"): ("c", 1), ("a", "c"): ("a", 3), ("b", "a"): ("a", 2), ("b", "b"): ("b", 2),
             ("b", "c"): ("c", 2), ("c", "a"): ("b", -2), ("c", "b"): ("b", -2), ("c", "c"): ("c", 3)})

    def test_joined_takes_the_first_mark_without_a_row(self):
        book = book_of("join a b to c by 1")
        self.assertEqual((book.joined("b", "a"), book.joined("a", "a"), book.joined("a", "c")), (("b", 0), ("a", 0), ("a", 0)))

    def test_the_first_part_row_that_fits(self):
        book = book_of("part b to same c by 1 -1", "part a to b same by -2 2", "part any to same same by 3 -3", "part c to a a by 0 0")
        self.assertEqual(
            [book.parted(mark) for mark in "abc"], [("b", "a", -2, 2), ("b", "c", 1, -1), ("c", "c", 3, -3)])

    def test_rows_of_other_kinds_mean_nothing(self):
        book = book_of("join any any to c by 1")
        self.assertEqual((book.step("yes", "a"), book.parted("b")), (("a", 0), ("b", "a", 0, 0)))
        book = book_of("part any to c c by 1 1")
        self.assertEqual((book.step("word", "a"), book.joined("b", "a")), (("a", 0), ("b", 0)))

    def test_results_are_tuples_of_words_and_integers(self):
        book = Book.read("\n".join(LINES))
        for told, many in ((book.step("yes", "none"), 2), (book.joined("in", "in"), 2), (book.parted("in"), 4)):
            self.assertIsInstance(told, tuple)
            self.assertEqual(len(told), many)

    def test_values_that_are_no_marks(self):
        book = book_of("yes any to b by 1", "join any any to b by 1", "part any to b b by 1 1")
        for value in ANY_VALUES:
            if value in book.marks:
                continue
            for told in (
                lambda: book.step("yes", value), lambda: book.joined(value, "a"), lambda: book.joined("a", value),
                lambda: book.parted(value), lambda: book.joined(value, value), lambda: book.joined(value, None),
                lambda: book.joined(value, "zz"),
            ):
                with self.assertRaises(NoMark) as caught:
                    told()
                self.assertIs(caught.exception.name, value)


class Rows(unittest.TestCase):
    def test_len_and_index(self):
        book = Book.read("\n".join(LINES))
        self.assertEqual(len(book), 7)
        self.assertEqual([str(book[at]) for at in range(7)], list(LINES[3:]))
        self.assertIs(book[2], book.rows[2])
        self.assertEqual(len(book_of()), 0)

    def test_without(self):
        book = Book.read("\n".join(LINES))
        for at in range(7):
            less = book.without(at)
            self.assertEqual(str(less), "\n".join([*LINES[:3 + at], *LINES[4 + at:]]))
        self.assertEqual(str(book), "\n".join(LINES))

    def test_without_the_first_that_fits(self):
        book = book_of("yes a to b by 1", "yes any to c by 2")
        self.assertEqual(book.without(0).step("yes", "a"), ("c", 2))
        self.assertEqual(book.without(1).without(0).step("yes", "a"), ("a", 0))

    def test_equal_rows_are_told_apart(self):
        book = book_of("yes a to b by 1", "no a to b by 1", "yes a to b by 1")
        self.assertEqual(texts(book.without(2)), ["yes a to b by 1", "no a to b by 1"])
        self.assertEqual(texts(book.without(0)), ["no a to b by 1", "yes a to b by 1"])

    def test_integers_that_are_no_rows(self):
        for book in (book_of(), book_of("yes a to b by 1"), Book.read("\n".join(LINES))):
            for at in (-10 ** 30, -8, -7, -2, -1, len(book), len(book) + 1, 10 ** 30):
                for use in (lambda: book[at], lambda: book.without(at)):
                    with self.assertRaises(NoRow) as caught:
                        use()
                    self.assertEqual(caught.exception.at, at)


class Asking(unittest.TestCase):
    BOOK = book_of("word a to b by 1", "join a a to b by 1", marks=("b", "c", "a"), counted=("c", "a"), keeps=EDITS)

    ASKED = {
        "back": ["back b to b by 0", "back c to b by -1", "back a to b by -1"],
        "cut": ["cut b to b by 0", "cut c to b by -1", "cut a to b by -1"],
        "join": [
            "join b b to b by 0", "join b c to b by -1", "join b a to b by -1", "join c b to b by -1", "join c c to b by -2",
            "join c a to b by -2", "join a b to b by -1", "join a c to b by -2", "join a a to b by -2",
        ],
        "part": ["part b to b b by 0 0", "part c to b b by -1 0", "part a to b b by -1 0"],
        "word": ["word b to b by 0", "word c to b by -1", "word a to b by -1"],
    }

    def test_every_set_of_kinds_in_every_order(self):
        for many in range(6):
            for kinds in itertools.permutations(EDITS, many):
                book = self.BOOK.asking(kinds)
                rows = [row for kind in EDITS if kind in kinds for row in self.ASKED[kind]]
                self.assertEqual(texts(book), [*rows, *texts(self.BOOK)])
                self.assertEqual(book.keeps, tuple(kind for kind in EDITS if kind not in kinds))
                self.assertEqual((book.marks, book.counted), (self.BOOK.marks, self.BOOK.counted))

    def test_a_kind_that_stands_there_twice_counts_once(self):
        self.assertEqual(self.BOOK.asking(["word", "cut", "word", "cut"]), self.BOOK.asking(("cut", "word")))

    def test_no_kinds(self):
        self.assertEqual(self.BOOK.asking([]), self.BOOK)
        self.assertEqual(self.BOOK.asking(()), self.BOOK)

    def test_a_kind_that_is_not_kept(self):
        book = book_of("cut a to b by 1", marks=("a", "b"), keeps=("word",)).asking(["cut"])
        self.assertEqual(texts(book), ["cut a to a by 0", "cut b to a by -1", "cut a to b by 1"])
        self.assertEqual(book.keeps, ("word",))

    def test_the_first_rows_are_those_that_ask(self):
        book = self.BOOK.asking(["join", "word"])
        self.assertEqual((book.step("word", "a"), book.joined("a", "a"), book.joined("b", "b")), (("b", -1), ("b", -2), ("b", 0)))

    def test_asking_again_and_in_a_big_book(self):
        twice = self.BOOK.asking(["word"]).asking(["word"])
        self.assertEqual(texts(twice), [*self.ASKED["word"], *self.ASKED["word"], *texts(self.BOOK)])
        big = Book(["a", "b", "c", "d"], ["d"], [], [Step("yes", "a", "d", 1)] * 16).asking(EDITS)
        self.assertEqual(len(big), 4 * 4 + 16 + 16)
        self.assertEqual(len(big.without(40)), 47)

    def test_kinds_do_not_change(self):
        kinds = ["word", "back", "word"]
        book = self.BOOK.asking(kinds)
        self.assertEqual(kinds, ["word", "back", "word"])
        kinds.clear()
        self.assertEqual(len(book), 8)
        self.assertEqual(self.BOOK.keeps, EDITS)
        self.assertEqual(len(self.BOOK), 2)


class Examples(unittest.TestCase):
    def test_the_example_of_the_document(self):
        good = Book.read("\n".join(LINES))
        self.assertEqual(
            (good.step("yes", "none"), good.step("word", "in"), good.joined("none", "in"), good.parted("none"),
             len(good.asking(["join"]))),
            (("in", 1), ("in", 0), ("in", 0), ("none", "none", 0, 0), 11))

    def test_the_books_of_the_overview(self):
        good = Book.read("\n".join(LINES))
        self.assertEqual((len(good), good.blank, good.counted, good.keeps), (7, "none", ("in",), EDITS))
        for at in (7, 8):
            self.assertEqual(Book.read("\n".join(LINES[:at] + LINES[at + 1:])), good.without(at - 3))


if __name__ == "__main__":
    unittest.main()
