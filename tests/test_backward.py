"""Promise 19: who can have voted how, and whether edits do harm to a vote."""

import inspect
import itertools
import random
import unittest

from forkpolls import backward
from forkpolls.backward import harmless, voted
from forkpolls.deciding import story
from forkpolls.errors import InvalidEvent
from forkpolls.polls import play
from tests import oracle, oracle_two
from tests.books import GOOD, POOR, book_of
from tests.values import ANY_VALUES

# Whoever votes for an option may be counted at its left part only.
LEFT = book_of("yes a to b by 1", "join a b to b by 0", "join b b to b by -1", "part b to b a by 0 0", keeps="join part word")


class Backward(unittest.TestCase):
    def assert_wrong(self, edits, at, options=3):
        for book in (GOOD, POOR):
            for asked in (lambda: voted(book, options, edits, [0]), lambda: harmless(book, options, edits)):
                with self.assertRaises(InvalidEvent) as caught:
                    asked()
                self.assertEqual(caught.exception.at, at, edits)

    def assert_told(self, book, options, edits, told):
        """Check what is told of edits against the oracle, and return it."""
        wanted = oracle_two.voted(book, options, edits, told)
        self.assertEqual(voted(book, options, edits, told), wanted, (str(book), options, edits, told))
        self.assertIs(harmless(book, options, edits), oracle_two.harmless(book, options, edits), (str(book), options, edits))
        return wanted


class Interface(Backward):
    def test_parameters_and_where_things_are_defined(self):
        for told, words in ((voted, ["book", "options", "edits", "told"]), (harmless, ["book", "options", "edits"])):
            self.assertEqual(list(inspect.signature(told).parameters), words)
            self.assertEqual(told.__module__, "forkpolls.backward")
            self.assertIs(getattr(backward, told.__name__), told)

    def test_arguments_by_name(self):
        self.assertEqual(voted(told=[3], edits=["join 0 1"], options=3, book=GOOD), ((0,), (0, 1), (1,)))
        self.assertIs(harmless(edits=["join 0 1"], options=3, book=POOR), False)

    def test_lists_and_tuples(self):
        edits, told = ["join 0 1", "word 2"], [2, 3]
        for given in ((edits, told), (tuple(edits), told), (edits, tuple(told)), (tuple(edits), tuple(told))):
            result = voted(GOOD, 3, *given)
            self.assertEqual(result, ((0, 1, 2), (0, 2), (1, 2)))
            self.assertIsInstance(result, tuple)
            for choice in result:
                self.assertIsInstance(choice, tuple)
            self.assertIs(harmless(GOOD, 3, given[0]), True)

    def test_arguments_do_not_change(self):
        edits, told = ["join 0 1", "part 3"], [4, 4, 5, 99]
        first = voted(GOOD, 3, edits, told), harmless(GOOD, 3, edits)
        voted(POOR, 2, ["word 0"], []), harmless(POOR, 4, [])
        self.assertEqual((edits, told), (["join 0 1", "part 3"], [4, 4, 5, 99]))
        self.assertEqual((voted(GOOD, 3, edits, told), harmless(GOOD, 3, edits)), first)


class Wrong(Backward):
    def test_what_is_no_sequence(self):
        for value in ANY_VALUES:
            if not isinstance(value, (list, tuple)):
                self.assert_wrong(value, 0)

    def test_any_values_in_the_place_of_an_edit(self):
        for value in (*ANY_VALUES, ["word 0"], ("word 0",)):
            self.assert_wrong([value], 0)
            self.assert_wrong(("word 0", value, None), 1)

    def test_events_that_are_no_edits(self):
        for event in ("yes 0 0", "no 0 0", "late yes 0 0", "late no 0 0", "cut 0 0", "count"):
            self.assert_wrong([event], 0)
            self.assert_wrong(["word 0", event, "word 9"], 1)
            # All of these are possible in a poll.
            play(GOOD, 1, 3, ["word 0", event])

    def test_edits_that_are_not_possible(self):
        for ahead, edit in (
            ([], "word 3"), ([], "part 7"), ([], "back 0"), ([], "join 0 0"), ([], "join 0 3"), (["strike 0"], "word 0"),
            (["strike 0"], "strike 0"), (["strike 0"], "join 1 0"), (["strike 0"], "part 0"), (["strike 0", "back 0"], "back 0"),
            (["join 0 1"], "word 0"), (["join 0 1"], "back 1"), (["join 0 1"], "part 4"), (["part 2"], "word 2"),
            (["part 2"], "join 4 2"), (["part 2"], "strike 5"),
        ):
            self.assert_wrong([*ahead, edit], len(ahead))
            self.assert_wrong([*ahead, edit, "yes 0 0", None], len(ahead))

    def test_the_first_wrong_one_is_named(self):
        self.assert_wrong(["word 0", "count", "word 9"], 1)
        self.assert_wrong(["word 0", "word 9", "count"], 1)
        self.assert_wrong(["word 0", "word 1", "word 2", "word 3"], 3)

    def test_other_texts(self):
        for edit in (
            "", " ", "word", "word 0 ", " word 0", "word  0", "word 00", "word 0\n", "word\n0", "word\t0", "word -1", "word +1",
            "word 0 0", "word a", "word 0.0", "word \u0660", "word \xb2", "Word 0", "join 0", "join 0 1 2", "join 0  1", "join 00 1",
            "part 10000", "word 0000", "back", "strike 0,", "edit 0",
        ):
            self.assert_wrong([edit], 0)


class Voted(Backward):
    def test_no_edits(self):
        for options in range(1, 6):
            for choice in oracle_two.choices_of(options):
                self.assertEqual(voted(GOOD, options, [], choice), (choice,))
            self.assertIs(harmless(GOOD, options, []), True)

    def test_choices_of_no_option_and_of_all(self):
        self.assertEqual(voted(GOOD, 3, ["join 0 1"], []), ((),))
        self.assertEqual(voted(GOOD, 3, ["join 0 1", "join 2 3"], [4]), tuple(oracle_two.choices_of(3)[1:]))
        # By this book nothing is ever counted.
        self.assertEqual(voted(book_of(), 3, ["join 0 1"], []), tuple(oracle_two.choices_of(3)))
        self.assertEqual(voted(book_of(), 3, ["join 0 1"], [3]), ())

    def test_choices_ascend(self):
        told = voted(book_of(), 4, [], [])
        self.assertEqual(told, tuple(sorted(told)))
        self.assertEqual(told[:5], ((), (0,), (0, 1), (0, 1, 2), (0, 1, 2, 3)))
        # The group of the later options is found first.
        self.assertEqual(voted(GOOD, 4, ["join 3 2", "join 1 0"], [4, 5]), (
            (0, 1, 2), (0, 1, 2, 3), (0, 1, 3), (0, 2), (0, 2, 3), (0, 3), (1, 2), (1, 2, 3), (1, 3)))

    def test_numbers_that_are_told_twice_or_mean_nothing(self):
        edits = ["join 0 1", "strike 2"]
        for told in ([3], [3, 3], [3, 0, 1], [3, 2], [3, 99, 4], [0, 1, 2, 3, 3, 10 ** 20], [-1, 3, -3]):
            self.assertEqual(self.assert_told(GOOD, 3, edits, told), ((0,), (0, 1), (0, 1, 2), (0, 2), (1,), (1, 2)))
        for told in ([], [0], [2, 1, 0], [4]):
            self.assertEqual(self.assert_told(GOOD, 3, edits, told), ((), (2,)))

    def test_both_parts(self):
        edits = ["part 0"]
        self.assertEqual(voted(GOOD, 2, edits, [2, 3]), ((0,),))
        self.assertEqual(voted(GOOD, 2, edits, [2]), ())
        self.assertEqual(voted(GOOD, 2, edits, [1, 2, 3]), ((0, 1),))
        self.assertEqual(voted(LEFT, 2, edits, [2]), ((0,),))
        self.assertEqual(voted(LEFT, 2, edits, [2, 3]), ())

    def test_parts_that_are_joined_again(self):
        edits = ["part 0", "join 3 2"]
        self.assertEqual(self.assert_told(LEFT, 2, edits, [4]), ((0,),))
        self.assertEqual(self.assert_told(LEFT, 2, edits, [1]), ((1,),))
        edits = ["part 0", "join 2 1", "join 3 4"]
        self.assertEqual(self.assert_told(LEFT, 2, edits, [5]), ((0,), (0, 1), (1,)))
        edits = ["part 0", "part 3", "join 2 1", "join 4 5"]
        self.assertEqual(self.assert_told(LEFT, 2, edits, [6]), ((0,), (0, 1), (1,)))
        self.assertEqual(self.assert_told(GOOD, 2, edits, [6, 7]), ((0,), (0, 1)))

    def test_an_option_that_was_parted_struck_brought_back_and_worded(self):
        edits = ["part 0", "join 2 1", "strike 3", "word 4", "back 3", "strike 4", "back 4", "join 3 4", "part 5"]
        for many in range(len(edits) + 1):
            for told in ([], [2], [3], [4], [2, 3], [3, 4], [4, 6], [6], [6, 7]):
                for book in (GOOD, POOR, LEFT):
                    self.assert_told(book, 2, edits[:many], told)
        self.assertEqual(voted(GOOD, 2, edits[:3], [4]), ((0,), (0, 1), (1,)))
        self.assertEqual(voted(GOOD, 2, edits[:3], [3, 4]), ((0,), (0, 1), (1,)))
        self.assertEqual(voted(GOOD, 2, edits[:5], [4]), ((1,),))
        self.assertEqual(voted(GOOD, 2, edits[:5], [3, 4]), ((0,), (0, 1)))
        self.assertEqual(voted(GOOD, 2, edits[:6], [3]), ((0,), (0, 1)))

    def test_the_yes_is_done_once(self):
        book = book_of("yes a to b by 1", "yes b to a by -1", "no b to a by -1")
        self.assertEqual(voted(book, 2, [], [1]), ((1,),))

    def test_a_yes_that_does_not_count(self):
        book = book_of("yes a to c by 0", "word c to b by 1")
        self.assertEqual(self.assert_told(book, 2, [], []), ((), (0,), (0, 1), (1,)))
        self.assertEqual(self.assert_told(book, 2, ["word 1"], [1]), ((0, 1), (1,)))

    def test_a_yes_that_does_nothing(self):
        book = book_of("word a to b by 1")
        self.assertEqual(self.assert_told(book, 2, ["word 1"], [1]), ((), (0,), (0, 1), (1,)))

    def test_which_option_is_first(self):
        book = book_of("yes a to b by 1", "join b a to c by 0")
        self.assertEqual(self.assert_told(book, 2, ["join 0 1"], [2]), ((0, 1),))
        self.assertEqual(self.assert_told(book, 2, ["join 1 0"], [2]), ((0, 1),))
        book = book_of("yes a to b by 1", "join a any to other by 0", "join b a to a by 0")
        self.assertEqual(self.assert_told(book, 2, ["join 0 1"], [2]), ((0, 1), (1,)))
        self.assertEqual(self.assert_told(book, 2, ["join 1 0"], [2]), ((0,), (0, 1)))


class Harmless(Backward):
    def test_the_good_book(self):
        dice = random.Random(19)
        for _ in range(60):
            options = dice.randint(1, 5)
            edits = oracle_two.random_edits(dice, options, dice.randint(0, 12))
            self.assertIs(harmless(GOOD, options, edits), True, edits)

    def test_a_vote_that_is_lost(self):
        self.assertIs(harmless(POOR, 2, ["join 0 1"]), False)
        self.assertIs(harmless(POOR, 2, ["word 0", "part 1"]), True)
        self.assertIs(harmless(LEFT, 2, ["part 0"]), False)
        self.assertIs(harmless(LEFT, 2, ["part 0", "strike 3"]), True)
        self.assertIs(harmless(LEFT, 2, ["part 0", "strike 3", "back 3"]), False)
        self.assertIs(harmless(LEFT, 2, ["part 0", "join 2 3"]), True)
        self.assertIs(harmless(LEFT, 2, ["part 0", "part 3", "join 5 4"]), False)

    def test_a_vote_that_nobody_gave(self):
        book = book_of("yes a to b by 1", "word a to b by 1")
        self.assertIs(harmless(book, 2, []), True)
        self.assertIs(harmless(book, 2, ["word 1"]), False)
        self.assertIs(harmless(book, 2, ["word 1", "strike 1"]), True)

    def test_a_book_that_counts_nothing(self):
        self.assertIs(harmless(book_of(), 1, []), False)
        self.assertIs(harmless(book_of(), 1, ["strike 0"]), True)

    def test_a_poll_in_which_no_option_is_left(self):
        edits = ["join 0 1", "strike 2"]
        for book in (GOOD, POOR, book_of()):
            self.assertIs(harmless(book, 2, edits), True)
            self.assertEqual(voted(book, 2, edits, [2]), ((), (0,), (0, 1), (1,)))

    def test_what_is_asked_anew(self):
        self.assertIs(harmless(GOOD.asking(["word"]), 2, ["part 0", "join 1 2"]), True)
        self.assertIs(harmless(GOOD.asking(["word"]), 2, ["part 0", "word 1"]), False)

    def test_one_choice_alone_that_does_harm(self):
        # Only a voter for all three is lost.
        rows = ("yes a to b by 1", "join b b to c by -1", "join c b to a by -2", "join a any to other by 0")
        book = book_of(*rows, counted="b c")
        self.assertIs(harmless(book, 3, ["join 0 1"]), True)
        self.assertIs(harmless(book, 3, ["join 0 1", "join 3 2"]), False)
        self.assertIs(harmless(book, 3, ["join 0 1", "join 2 3"]), True)


class Compared(Backward):
    def test_books_by_chance(self):
        dice = random.Random(9)
        for seed in range(250):
            book = oracle.random_book(seed) if seed % 2 else oracle.near_book(seed, GOOD)
            options = dice.randint(1, 4)
            edits = oracle_two.random_edits(dice, options, dice.randint(1, 10))
            numbers = range(options + 2 * len(edits))
            counted = oracle_two.counted_behind(book, options, edits, dice.choice(oracle_two.choices_of(options)))[1]
            for told in (counted, dice.sample(numbers, min(3, len(numbers)))):
                self.assert_told(book, options, edits, told)

    def test_each_choice_is_told_once(self):
        dice = random.Random(5)
        for seed in range(20):
            book = oracle.random_book(seed)
            edits = oracle_two.random_edits(dice, 3, 2)
            play_poll = oracle_two.counted_behind(book, 3, edits, ())[0]
            found = [
                choice for many in range(len(play_poll) + 1) for told in itertools.combinations(play_poll, many)
                for choice in voted(book, 3, edits, told)]
            self.assertEqual(sorted(found), oracle_two.choices_of(3))

    def test_somewhat_beyond_the_limits(self):
        dice = random.Random(7)
        edits = oracle_two.random_edits(dice, 7, 16)
        self.assert_told(GOOD, 7, edits, [0, 8, 9, 10])

    def test_a_story_that_was_told_of_a_book(self):
        # So many options have too many choices to look at each.
        names = "abcde"
        rows = [f"join {one} {one} to {two} by 0" for one, two in zip(names, names[1:])]
        book = book_of(*rows, "join any any to a by 0", marks=" ".join(names), counted="e")
        options, edits = story(book, "false")
        self.assertEqual(options, 16)
        self.assertIs(harmless(book, options, edits), False)
        self.assertIs(harmless(GOOD, options, edits), True)
        edits = [f"join {2 * at} {2 * at + 1}" for at in range(8)]
        self.assertEqual(len(voted(GOOD, options, edits, list(range(options, options + 8)))), 3 ** 8)


class Examples(Backward):
    def test_the_example_of_the_document(self):
        self.assertEqual(voted(GOOD, 3, ["join 0 1"], [3]), ((0,), (0, 1), (1,)))
        self.assertEqual(voted(GOOD, 3, ["join 0 1", "part 3"], [4]), ())
        self.assertIs(harmless(GOOD, 3, ["join 0 1", "part 3"]), True)


if __name__ == "__main__":
    unittest.main()
