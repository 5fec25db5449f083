"""Promise 8: the texts of books, what is no such text, and equality."""

import itertools
import unittest

from forkpolls.books import Book
from forkpolls.errors import InvalidBook, InvalidText
from forkpolls.rows import Join, Part, Row, Step
from tests.values import ANY_VALUES, NAMES, NO_NAMES

EDITS = ("back", "cut", "join", "part", "word")
HEAD = "marks a b c\ncounted b\nkeeps word"


class Texts(unittest.TestCase):
    def test_a_text(self):
        rows = [Step("late yes", "a", "same", -3), Join("any", "b", "other", 0), Part("any", "c", "same", 3, -1)]
        book = Book(["a", "c", "b"], ["b", "c"], ["word", "cut", "back"], rows)
        self.assertEqual(str(book), (
            "marks a c b\ncounted c b\nkeeps back cut word\nlate yes a to same by -3\njoin any b to other by 0\n"
            "part any to c same by 3 -1"))

    def test_empty_sequences(self):
        self.assertEqual(str(Book(["a"], [], [], [])), "marks a\ncounted\nkeeps")
        self.assertEqual(str(Book(["a", "b"], ["b"], [], [])), "marks a b\ncounted b\nkeeps")
        self.assertEqual(str(Book(["a"], [], ["cut"], [])), "marks a\ncounted\nkeeps cut")
        self.assertEqual(str(Book(["a"], [], [], [Step("yes", "a", "a", 0)])), "marks a\ncounted\nkeeps\nyes a to a by 0")

    def test_reading_what_was_written(self):
        rows = (Step("no", "b", "a", -1), Join("any", "any", "one", 2), Part("a", "b", "c", 0, 1))
        for counted in ((), ("b",), ("c",), ("b", "c")):
            for keeps in ((), ("word",), EDITS):
                for many in range(4):
                    book = Book(("a", "b", "c"), counted, keeps, rows[:many])
                    read = Book.read(str(book))
                    self.assertEqual(str(read), str(book))
                    self.assertEqual((read.marks, read.counted, read.keeps), (book.marks, book.counted, book.keeps))
                    self.assertEqual((read.rows, read.blank), (book.rows, "a"))


class Read(unittest.TestCase):
    def assert_no_text(self, text, at):
        with self.assertRaises(InvalidText) as caught:
            Book.read(text)
        self.assertEqual(caught.exception.at, at, text)

    def assert_no_book(self, text, word):
        with self.assertRaises(InvalidBook) as caught:
            Book.read(text)
        self.assertEqual(caught.exception.word, word, text)

    def test_words_in_another_order(self):
        for counted in itertools.permutations(["b", "c", "d"]):
            book = Book.read("marks a b c d\ncounted " + " ".join(counted) + "\nkeeps")
            self.assertEqual(book.counted, ("b", "c", "d"))
        for keeps in itertools.permutations(EDITS):
            book = Book.read("marks a\ncounted\nkeeps " + " ".join(keeps))
            self.assertEqual(str(book), "marks a\ncounted\nkeeps back cut join part word")

    def test_the_order_of_marks_and_rows_stays(self):
        text = "marks c a b\ncounted a b\nkeeps\nyes c to a by 1\nno a to c by -1\nyes c to b by 1"
        book = Book.read(text)
        self.assertEqual((book.marks, book.blank, str(book)), (("c", "a", "b"), "c", text))

    def test_every_name_can_stand_in_a_book(self):
        for name in NAMES:
            text = f"marks x {name}\ncounted {name}\nkeeps\nword x to {name} by 1"
            self.assertEqual(str(Book.read(text)), text)

    def test_fewer_than_three_lines(self):
        self.assert_no_text("", 0)
        self.assert_no_text("marks a", 1)
        self.assert_no_text("marks a\ncounted", 2)
        self.assert_no_text("marks a b\ncounted b", 2)
        self.assert_no_text("marks a a\ncounted zz", 2)

    def test_a_wrong_line_among_fewer_than_three(self):
        self.assert_no_text("marks", 0)
        self.assert_no_text("counted", 0)
        self.assert_no_text("\n", 0)
        self.assert_no_text("marks a\n", 1)
        self.assert_no_text("marks a\nkeeps", 1)
        self.assert_no_text("marks\nkeeps", 0)

    def test_wrong_first_lines(self):
        for line in (
            "", "marks", "marks ", "mark a", "Marks a", " marks a", "marks  a", "marks a ", "marks\ta", "counted a", "keeps",
            "marks a  b", "a b", "marks,a", "marksa", "yes a to b by 0", "marks a by b", "marks 1",
        ):
            self.assert_no_text(f"{line}\ncounted\nkeeps", 0)
            self.assert_no_text(f"{line}\nwrong\nwrong\nwrong", 0)

    def test_wrong_second_lines(self):
        for line in ("", "counted ", "count b", " counted", "counted  b", "counted b ", "keeps", "marks b", "counted b,c", "counted B"):
            self.assert_no_text(f"marks a b c\n{line}\nkeeps", 1)
            self.assert_no_text(f"marks a b c\n{line}\nwrong\nwrong", 1)

    def test_wrong_third_lines(self):
        for line in (
            "", "keeps ", "keep word", " keeps", "keeps  word", "keeps word ", "counted", "keeps strike", "keeps yes", "keeps a",
            "keeps late yes", "keeps Word", "keeps words", "keeps word,cut", "keeps word count", "word",
        ):
            self.assert_no_text(f"marks a b c\ncounted b\n{line}", 2)
            self.assert_no_text(f"marks a b c\ncounted b\n{line}\nwrong", 2)

    def test_words_that_are_no_names(self):
        for word in NO_NAMES:
            if " " in word or "\n" in word:
                continue
            self.assert_no_text(f"marks a {word}\ncounted\nkeeps", 0)
            self.assert_no_text(f"marks {word} a\ncounted\nkeeps", 0)
            self.assert_no_text(f"marks a b\ncounted b {word}\nkeeps", 1)

    def test_wrong_rows(self):
        for line in (
            "", " ", "yes a to b by 4", "yes a to b by +1", "yes  a to b by 0", "yes a to b by 0 ", "marks a b c", "keeps",
            "join a b to same by 0", "part a to b c by 0", "late word a to b by 0", "count", "yes A to b by 0", "YES a to b by 0",
        ):
            self.assert_no_text(f"{HEAD}\n{line}", 3)
            self.assert_no_text(f"{HEAD}\nyes a to b by 1\nno b to a by -1\n{line}", 5)
            self.assert_no_text(f"{HEAD}\nyes a to b by 1\n{line}\nno b to a by -1\nwrong", 4)
        self.assert_no_text(HEAD + "\n", 3)

    def test_other_ends_of_lines(self):
        self.assert_no_text(HEAD.replace("\n", "\r\n"), 0)
        self.assert_no_text(HEAD.replace("\n", "\r"), 0)
        self.assert_no_text("marks a\ncounted\x0bkeeps", 1)
        self.assert_no_text("marks a\ncounted\nkeeps\x0cyes a to a by 0", 2)

    def test_then_the_errors_of_books(self):
        self.assert_no_book("marks a a\ncounted\nkeeps", "marks")
        self.assert_no_book("marks a b a\ncounted zz\nkeeps cut cut\nyes q to q by 0", "marks")
        self.assert_no_book("marks a b\ncounted a\nkeeps", "counted")
        self.assert_no_book("marks a b\ncounted b b\nkeeps", "counted")
        self.assert_no_book("marks a b\ncounted c\nkeeps word word\nyes q to q by 0", "counted")
        self.assert_no_book("marks a b\ncounted b\nkeeps word cut word\nyes q to q by 0", "keeps")
        self.assert_no_book("marks a b\ncounted b\nkeeps\nyes q to a by 0", "mark")
        self.assert_no_book("marks a b\ncounted b\nkeeps\nyes a to b by 0\njoin any any to q by 0", "mark")

    def test_lines_are_judged_ahead_of_books(self):
        self.assert_no_text("marks a a\ncounted\nkeeps\nwrong", 3)
        self.assert_no_text("marks a b\ncounted a\nkeeps strike", 2)
        self.assert_no_text("marks a b\ncounted b\nkeeps\nyes q to a by 0\nyes a to b by 9", 4)

    def test_any_values(self):
        for value in ANY_VALUES:
            self.assert_no_text(value, 0)


class Equal(unittest.TestCase):
    def test_books_are_equal_if_their_texts_are(self):
        books = [
            Book(marks, counted, keeps, rows)
            for marks in (["a", "b", "c"], ["a", "c", "b"]) for counted in (["b"], ["b", "c"], ["c", "b"])
            for keeps in ([], ["word", "cut"], ("cut", "word"))
            for rows in ([], [Step("yes", "a", "a", 0)], [Step("yes", "a", "same", 0)], (Row.read("yes a to a by 0"),))]
        for one in books:
            for other in books:
                self.assertEqual(one == other, str(one) == str(other))
                self.assertEqual(one != other, str(one) != str(other))

    def test_the_order_of_counted_and_keeps_means_nothing(self):
        one = Book(["a", "b", "c"], ["c", "b"], ["word", "back"], [])
        self.assertTrue(one == Book.read("marks a b c\ncounted b c\nkeeps back word"))

    def test_the_order_of_marks_and_rows_means_something(self):
        rows = [Step("yes", "a", "b", 1), Step("no", "b", "a", -1)]
        self.assertFalse(Book(["a", "b"], [], [], rows) == Book(["a", "b"], [], [], rows[::-1]))
        self.assertFalse(Book(["a", "b", "c"], [], [], rows) == Book(["a", "c", "b"], [], [], rows))

    def test_nothing_of_another_class_is_equal(self):
        book = Book(["a", "b"], ["b"], [], [Step("yes", "a", "b", 1)])
        for value in [*ANY_VALUES, str(book), [book], (book,), book[0], None]:
            self.assertFalse(book == value)
            self.assertTrue(book != value)
        self.assertFalse(book[0] == book)


if __name__ == "__main__":
    unittest.main()
