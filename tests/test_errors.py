"""Promise 4: the errors, what they derive from, and what they keep."""

import unittest

from forkpolls import errors
from tests.values import ANY_VALUES

POLL_ERRORS = {
    "InvalidRow": "word", "InvalidBook": "word", "InvalidText": "at", "InvalidEvent": "at", "InvalidFault": None,
    "InvalidCommand": None, "Refused": "at",
}

OTHERS = {"NoRow": (IndexError, "at"), "NoMark": (KeyError, "name")}

KEPT = {
    **{name: word for name, word in POLL_ERRORS.items() if word}, **{name: pair[1] for name, pair in OTHERS.items()},
}


class Bases(unittest.TestCase):
    def test_poll_error_is_a_value_error(self):
        self.assertEqual(errors.PollError.__bases__, (ValueError,))

    def test_the_poll_errors_derive_directly_from_it(self):
        for name in POLL_ERRORS:
            self.assertEqual(getattr(errors, name).__bases__, (errors.PollError,), name)

    def test_the_other_errors_derive_directly_from_errors_of_python(self):
        for name, (base, _) in OTHERS.items():
            self.assertEqual(getattr(errors, name).__bases__, (base,), name)

    def test_each_is_defined_in_this_module(self):
        for name in ["PollError", *POLL_ERRORS, *OTHERS]:
            self.assertEqual(getattr(errors, name).__module__, "forkpolls.errors", name)


class Arguments(unittest.TestCase):
    def test_each_argument_is_kept_itself(self):
        things = [*ANY_VALUES, object(), {"a": 1}, {1, 2}, len, 0.5, b"a"]
        for name, word in KEPT.items():
            for thing in things:
                self.assertIs(getattr(getattr(errors, name)(thing), word), thing)
                self.assertIs(getattr(getattr(errors, name)(**{word: thing}), word), thing)

    def test_a_list_that_changes_later_is_the_same_list(self):
        for name, word in KEPT.items():
            thing = [1]
            error = getattr(errors, name)(thing)
            thing.append(2)
            self.assertEqual(getattr(error, word), [1, 2])

    def test_an_argument_is_needed_where_one_is_kept(self):
        for name in KEPT:
            with self.assertRaises(TypeError):
                getattr(errors, name)()

    def test_two_need_no_arguments(self):
        for name in ("InvalidFault", "InvalidCommand"):
            with self.assertRaises(errors.PollError):
                raise getattr(errors, name)()

    def test_no_error_is_iterable(self):
        for name in KEPT:
            with self.assertRaises(TypeError):
                iter(getattr(errors, name)("word"))


if __name__ == "__main__":
    unittest.main()
