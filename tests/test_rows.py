"""Promise 5: the rows, their texts, and what is no row."""

import inspect
import itertools
import re
import unittest

from forkpolls import rows
from forkpolls.errors import InvalidRow, InvalidText
from forkpolls.rows import Join, Part, Row, Step
from tests.values import ANY_VALUES, NAMES, NO_INTEGERS, NO_NAMES, NO_STRINGS

KINDS = ("yes", "no", "late yes", "late no", "word", "strike", "back", "cut")
NUMBERS = (-3, -2, -1, 0, 1, 2, 3)

# The parameters of each row, in order, with what is right for them.
STEP = {"kind": KINDS, "old": ("a", "word", "any"), "then": ("b", "late", "same"), "add": NUMBERS}
JOIN = {"here": ("a", "any"), "there": ("b", "any"), "then": ("c", "one", "other"), "add": NUMBERS}
PART = {"old": ("a", "any"), "left": ("b", "same"), "right": ("c", "same"), "add": NUMBERS, "more": NUMBERS}
MADE = ((Step, STEP), (Join, JOIN), (Part, PART))

# Words beside names that each parameter of a mark takes.
WORDS = {
    Step: {"old": ("any",), "then": ("same",)},
    Join: {"here": ("any",), "there": ("any",), "then": ("one", "other")},
    Part: {"old": ("any",), "left": ("same",), "right": ("same",)},
}

NAME = "(?!(?:any|by|one|same|to)(?![a-z]))[a-z]{1,4}"
OLD = f"(?:any|{NAME})"
SAME = f"(?:same|{NAME})"
NUMBER = "(?:-[123]|[0123])"
FORMS = (
    f"(?:yes|no|late yes|late no|word|strike|back|cut) {OLD} to {SAME} by {NUMBER}",
    f"join {OLD} {OLD} to (?:one|other|{NAME}) by {NUMBER}",
    f"part {OLD} to {SAME} {SAME} by {NUMBER} {NUMBER}",
)


def is_row_text(text):
    """Return whether some row has the text, told without the package."""
    return any(re.fullmatch(form, text) for form in FORMS)


def all_made():
    """Return a list of the class, the arguments and the row, for many right arguments."""
    return [(made, args, made(*args)) for made, right in MADE for args in itertools.product(*right.values())]


def arguments(row):
    """Return the class of a row and the attributes that it must have."""
    names = dict(MADE)[row.__class__]
    return row.__class__, tuple(getattr(row, name) for name in names)


class Interface(unittest.TestCase):
    def test_parameters(self):
        for made, right in MADE:
            self.assertEqual(list(inspect.signature(made).parameters), list(right))
        self.assertEqual(list(inspect.signature(Row.read).parameters), ["text"])

    def test_where_things_are_defined(self):
        for made in (Row, Step, Join, Part):
            self.assertEqual(made.__module__, "forkpolls.rows")
        for name in ("read", "__eq__", "__str__"):
            self.assertIn(name, vars(Row))
        self.assertIsInstance(vars(Row)["read"], classmethod)
        self.assertEqual(rows.Row.read(text="cut a to b by 0").kind, "cut")

    def test_arguments_by_name(self):
        self.assertEqual(str(Step(add=1, then="in", old="none", kind="late yes")), "late yes none to in by 1")
        self.assertEqual(str(Join(add=0, then="one", there="any", here="in")), "join in any to one by 0")
        self.assertEqual(str(Part(more=-1, add=0, right="none", left="same", old="in")), "part in to same none by 0 -1")


class Made(unittest.TestCase):
    def test_arguments_are_attributes(self):
        for made, args, row in all_made():
            self.assertIsInstance(row, Row)
            self.assertEqual(arguments(row), (made, args))

    def test_texts(self):
        for made, args, row in all_made():
            words = [str(arg) for arg in args]
            if made is Step:
                words = [words[0], words[1], "to", words[2], "by", words[3]]
            elif made is Join:
                words = ["join", words[0], words[1], "to", words[2], "by", words[3]]
            else:
                words = ["part", words[0], "to", *words[1:3], "by", *words[3:]]
            self.assertEqual(str(row), " ".join(words))
            self.assertTrue(is_row_text(str(row)))

    def test_texts_of_the_document(self):
        self.assertEqual(str(Step("late yes", "none", "in", 1)), "late yes none to in by 1")
        self.assertEqual(str(Join("in", "any", "one", 0)), "join in any to one by 0")
        self.assertEqual(str(Part("in", "same", "none", 0, -1)), "part in to same none by 0 -1")

    def test_every_name_is_right_for_every_mark(self):
        for name in NAMES:
            self.assertEqual(str(Step("yes", name, name, 0)), f"yes {name} to {name} by 0")
            self.assertEqual(str(Join(name, name, name, 0)), f"join {name} {name} to {name} by 0")
            self.assertEqual(str(Part(name, name, name, 0, 0)), f"part {name} to {name} {name} by 0 0")

    def test_rows_are_not_iterable(self):
        for row in (Step("yes", "a", "b", 0), Join("a", "b", "c", 0), Part("a", "b", "c", 0, 0)):
            with self.assertRaises(TypeError):
                iter(row)
            with self.assertRaises(TypeError):
                len(row)


class Wrong(unittest.TestCase):
    def assert_wrong(self, made, args, word):
        with self.assertRaises(InvalidRow) as caught:
            made(*args)
        self.assertEqual(caught.exception.word, word, (made, args))

    def wrong_for(self, made, name):
        """Return any values that are wrong for a parameter."""
        if name == "kind":
            return [value for value in ANY_VALUES if not (isinstance(value, str) and value in KINDS)]
        if name in ("add", "more"):
            return [*NO_INTEGERS, -4, 4, 5, -100, 10 ** 30, -10 ** 30]
        allowed = WORDS[made][name]
        return [*[word for word in NO_NAMES if word not in allowed], *NO_STRINGS, -3, 0, 3, "strike", "late yes"]

    def test_any_value_in_the_place_of_each_argument(self):
        for made, right in MADE:
            good = [values[0] for values in right.values()]
            for at, name in enumerate(right):
                for value in self.wrong_for(made, name):
                    self.assert_wrong(made, [*good[:at], value, *good[at + 1:]], name)

    def test_the_first_of_several_wrong_ones_is_named(self):
        for made, right in MADE:
            names = list(right)
            good = [values[0] for values in right.values()]
            for which in itertools.product((False, True), repeat=len(names)):
                for bad in (None, "by", True, [], 4, Step("yes", "a", "b", 0)):
                    args = [bad if wrong else value for wrong, value in zip(which, good)]
                    if any(which):
                        self.assert_wrong(made, args, names[which.index(True)])

    def test_words_of_other_parameters_are_wrong(self):
        self.assert_wrong(Step, ("yes", "same", "a", 0), "old")
        self.assert_wrong(Step, ("yes", "a", "any", 0), "then")
        self.assert_wrong(Step, ("yes", "a", "one", 0), "then")
        self.assert_wrong(Step, ("yes", "a", "other", 0), "then")
        self.assert_wrong(Step, ("join", "a", "b", 0), "kind")
        self.assert_wrong(Step, ("part", "a", "b", 0), "kind")
        self.assert_wrong(Step, ("late", "a", "b", 0), "kind")
        self.assert_wrong(Step, ("late word", "a", "b", 0), "kind")
        self.assert_wrong(Join, ("one", "a", "b", 0), "here")
        self.assert_wrong(Join, ("a", "other", "b", 0), "there")
        self.assert_wrong(Join, ("a", "b", "any", 0), "then")
        self.assert_wrong(Join, ("a", "b", "same", 0), "then")
        self.assert_wrong(Part, ("same", "a", "b", 0, 0), "old")
        self.assert_wrong(Part, ("a", "any", "b", 0, 0), "left")
        self.assert_wrong(Part, ("a", "one", "b", 0, 0), "left")
        self.assert_wrong(Part, ("a", "b", "other", 0, 0), "right")

    def test_arguments_do_not_change(self):
        bad = ["a"]
        self.assert_wrong(Step, ("yes", bad, bad, bad), "old")
        self.assertEqual(bad, ["a"])


class Read(unittest.TestCase):
    def assert_no_text(self, text):
        with self.assertRaises(InvalidText) as caught:
            Row.read(text)
        self.assertEqual(caught.exception.at, 0, text)

    def test_each_text_gives_its_row(self):
        for _, _, row in all_made():
            read = Row.read(str(row))
            self.assertEqual(arguments(read), arguments(row))
            self.assertEqual(read, row)

    def test_texts_with_one_character_changed(self):
        seen = {True: 0, False: 0}
        alphabet = " \n0134-+abeinostyNé"
        for row in ("late yes none to in by 1", "no any to same by -3", "join in any to one by 0", "part in to same x by 0 -1"):
            for at in range(len(row) + 1):
                changed = [row[:at] + letter + row[at:] for letter in alphabet]
                changed += [row[:at] + letter + row[at + 1:] for letter in alphabet] + [row[:at] + row[at + 1:]]
                for text in changed:
                    right = is_row_text(text)
                    seen[right] += 1
                    if right:
                        self.assertEqual(str(Row.read(text)), text)
                    else:
                        self.assert_no_text(text)
        self.assertTrue(seen[True] > 100 and seen[False] > 1000)

    def test_texts_with_one_word_changed(self):
        words = ("", "yes", "late", "join", "part", "strike", "any", "same", "one", "other", "to", "by", "a", "0", "-3", "+1", "4")
        for row in ("late no a to b by 0", "strike any to same by 1", "join a any to other by 0", "part a to same b by 0 0"):
            parts = row.split(" ")
            for at in range(len(parts) + 1):
                for word in words:
                    for rest in (parts[at:], parts[at + 1:]):
                        text = " ".join([*parts[:at], word, *rest])
                        if is_row_text(text):
                            self.assertEqual(str(Row.read(text)), text)
                        else:
                            self.assert_no_text(text)

    def test_other_spaces(self):
        for text in (
            "", " ", "\n", " yes a to b by 0", "yes a to b by 0 ", "yes  a to b by 0", "yes\ta to b by 0", "yes a to b by 0\n",
            "late  yes a to b by 0", "lateyes a to b by 0", "yes a to b by 0\nyes a to b by 0", "yes\na to b by 0",
        ):
            self.assert_no_text(text)

    def test_other_numbers(self):
        for number in ("4", "-4", "+1", "01", "-0", "00", "1.0", "", "- 1", "1 ", "--1", "one", "0x1", "10", "\u0661", "\xb2"):
            self.assert_no_text(f"yes a to b by {number}")
            self.assert_no_text(f"join a b to c by {number}")
            self.assert_no_text(f"part a to b c by {number} 0")
            self.assert_no_text(f"part a to b c by 0 {number}")

    def test_other_words(self):
        for text in (
            "yes", "late", "late yes", "join", "part", "late word a to b by 0", "late a to b by 0", "Yes a to b by 0",
            "count a to b by 0", "join a to b by 0", "part a to b by 0", "yes a b to c by 0", "yes a by b to 0", "yes a b by 0",
            "join a b to c d by 0 0", "join a b by c to 0", "join a b to c by 0 0", "part a b to c d by 0 0", "part a to b c by 0",
            "part a by b c to 0 0", "part a b to c by 0 0", "yes a to other by 0", "join a b to same by 0", "part a to any b by 0 0",
        ):
            self.assert_no_text(text)

    def test_any_values(self):
        for value in ANY_VALUES:
            self.assert_no_text(value)


class Equal(unittest.TestCase):
    def test_rows_are_equal_if_their_texts_are(self):
        few = [row for _, args, row in all_made() if args[-1] in (-1, 0) and args[3] in (-1, 0)]
        for one in few[::3]:
            for other in few[::5]:
                self.assertEqual(one == other, str(one) == str(other))
                self.assertEqual(one != other, str(one) != str(other))

    def test_rows_made_apart_are_equal(self):
        for made, right in MADE:
            args = [values[-1] for values in right.values()]
            self.assertTrue(made(*args) == made(*args))
            self.assertFalse(made(*args) != made(*args))

    def test_a_text_counts_not_what_it_does(self):
        self.assertNotEqual(Step("yes", "a", "a", 0), Step("yes", "a", "same", 0))
        self.assertNotEqual(Join("a", "b", "a", 0), Join("a", "b", "one", 0))

    def test_nothing_of_another_class_is_equal(self):
        row = Step("late no", "a", "a", 0)
        for value in [*ANY_VALUES, str(row), ("late no", "a", "a", 0), [row], (row,)]:
            self.assertFalse(row == value)
            self.assertTrue(row != value)


if __name__ == "__main__":
    unittest.main()
