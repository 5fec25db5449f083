"""Promises 9, 10 and 12: what events do, which are possible, and depths."""

import inspect
import itertools
import random
import unittest

from forkpolls import polls
from forkpolls.errors import InvalidEvent
from forkpolls.polls import Played, depths, play
from tests import oracle
from tests.books import EDITS, FAULTS, GOOD, POOR, book_of
from tests.values import ANY_VALUES

ATTRIBUTES = ("poll", "marks", "known", "totals", "counts", "now", "met")

# Each kind of step leads to a mark of its own, and adds a number of its own.
STEPS = book_of(
    "yes a to b by 1", "yes b to c by 2", "no any to a by -1", "late yes any to d by 3", "late no any to e by -2",
    "word b to d by 2", "word any to same by 1", "strike b to e by -3", "back e to c by 1", "cut any to f by -1",
    "join b c to d by 2", "join b any to other by 1", "join any any to one by 0", "part b to c d by 2 -1",
    "part any to same a by 1 3", marks="a b c d e f", counted="b d f")


def told(played):
    """Return all attributes of what was played."""
    return {name: getattr(played, name) for name in ATTRIBUTES}


class Polls(unittest.TestCase):
    def assert_wrong(self, events, at, voters=2, options=3):
        for book in (GOOD, STEPS):
            with self.assertRaises(InvalidEvent) as caught:
                play(book, voters, options, events)
            self.assertEqual(caught.exception.at, at, events)

    def assert_impossible(self, ahead, event):
        """Check that an event is not possible behind others."""
        play(GOOD, 2, 3, ahead)
        self.assert_wrong([*ahead, event], len(ahead))
        self.assert_wrong((*ahead, event, "yes 0 99", None), len(ahead))

    def assert_played(self, book, events, voters=1, options=2, **wanted):
        played = play(book, voters, options, events)
        for name, value in wanted.items():
            self.assertEqual(getattr(played, name), value, (name, events))


class Interface(Polls):
    def test_parameters(self):
        self.assertEqual(list(inspect.signature(play).parameters), ["book", "voters", "options", "events"])
        self.assertEqual(list(inspect.signature(depths).parameters), ["voters", "options", "events"])

    def test_where_things_are_defined(self):
        for thing in (play, depths, Played):
            self.assertEqual(thing.__module__, "forkpolls.polls")
            self.assertIs(getattr(polls, thing.__name__), thing)

    def test_arguments_by_name(self):
        played = play(events=["yes 1 0"], options=2, voters=3, book=GOOD)
        self.assertEqual(played.marks, (("none", "in", "none"), ("none",) * 3))
        self.assertEqual(depths(events=["yes 1 0"], options=2, voters=3), ((0, 0), (1, 0), (0, 0)))

    def test_all_sequences_are_tuples(self):
        played = play(GOOD, 2, 3, ["yes 0 0", "join 0 1", "strike 2"])
        self.assertIsInstance(played, Played)
        for name in ATTRIBUTES:
            self.assertIsInstance(getattr(played, name), tuple)
        for value in (*played.marks[2:], *played.known[2:], *depths(2, 3, ["yes 0 0"])):
            self.assertIsInstance(value, tuple)
        for value in play(POOR, 1, 2, ["yes 0 1"]).now:
            self.assertIsInstance(value, tuple)
        for value in (*played.known[2], *played.known[3]):
            self.assertIsInstance(value, bool)

    def test_lists_and_tuples(self):
        events = ["yes 0 0", "yes 0 1", "join 0 1", "part 2"]
        self.assertEqual(told(play(POOR, 2, 2, events)), told(play(POOR, 2, 2, tuple(events))))
        self.assertEqual(depths(2, 2, events), depths(2, 2, tuple(events)))

    def test_arguments_do_not_change(self):
        events = ["yes 0 0", "strike 0"]
        played = play(GOOD, 1, 1, events)
        before = told(played)
        self.assertEqual(events, ["yes 0 0", "strike 0"])
        events.clear()
        self.assertEqual(told(played), before)

    def test_the_same_call_returns_an_equal_result(self):
        events = ["yes 0 0", "yes 0 1", "join 0 1", "late no 0 1"]
        first, deep = told(play(POOR, 2, 2, events)), depths(2, 2, events)
        play(GOOD, 4, 6, ["count", "part 3"])
        with self.assertRaises(InvalidEvent):
            play(POOR, 2, 2, [*events, "yes 9 9"])
        self.assertEqual((told(play(POOR, 2, 2, events)), depths(2, 2, events)), (first, deep))

    def test_what_was_played_is_not_iterable(self):
        with self.assertRaises(TypeError):
            iter(play(GOOD, 1, 1, []))


class Events(Polls):
    def test_the_beginning(self):
        for voters, options in itertools.product((1, 2, 4), (1, 2, 6)):
            self.assertEqual(told(play(GOOD, voters, options, [])), {
                "poll": tuple(range(options)), "marks": (("none",) * voters,) * options, "known": ((False,) * voters,) * options,
                "totals": (0,) * options, "counts": (0,) * options, "now": (), "met": ()})
            self.assertEqual(depths(voters, options, ()), ((0,) * options,) * voters)

    def test_a_deed_concerns_one_voter_at_one_option(self):
        self.assert_played(
            STEPS, ["yes 1 2"], 3, 3, poll=(0, 1, 2), marks=(("a",) * 3, ("a",) * 3, ("a", "b", "a")), totals=(0, 0, 1),
            known=((False,) * 3, (False,) * 3, (False, True, False)), counts=(0, 0, 1))
        self.assert_played(STEPS, ["yes 1 0", "yes 1 0", "yes 0 0"], 2, 1, marks=(("b", "c"),), totals=(4,), counts=(1,))
        self.assert_played(
            STEPS, ["yes 0 0", "no 0 0", "no 1 0"], 2, 1, marks=(("a", "a"),), totals=(-1,), known=((False, False),))

    def test_word_concerns_all_voters(self):
        self.assert_played(
            STEPS, ["yes 0 0", "yes 2 0", "word 0"], 3, 2, poll=(0, 1), marks=(("d", "a", "d"), ("a",) * 3), totals=(7, 0))

    def test_strike_and_back(self):
        self.assert_played(
            STEPS, ["yes 0 0", "strike 0"], 2, 2, poll=(1,), marks=(("e", "a"), ("a", "a")), totals=(-2, 0), counts=(0, 0))
        self.assert_played(
            STEPS, ["yes 0 0", "strike 0", "back 0"], 2, 2, poll=(0, 1), marks=(("c", "a"), ("a", "a")), totals=(-1, 0))

    def test_cut_concerns_one_voter(self):
        self.assert_played(STEPS, ["yes 0 1", "yes 1 1", "cut 1 1"], marks=(("a", "a"), ("b", "f")), totals=(0, 1), voters=2)
        self.assert_played(STEPS, ["cut 0 1"], marks=(("a",), ("f",)), totals=(0, -1))

    def test_join_takes_the_first_one_first(self):
        ahead = ["yes 0 0", "yes 0 1", "yes 0 1", "yes 1 1"]
        self.assert_played(
            STEPS, [*ahead, "join 0 1"], 2, 2, poll=(2,), marks=(None, None, ("d", "a")), totals=(None, None, 7),
            counts=(None, None, 1), known=(None, None, (False, False)))
        self.assert_played(
            STEPS, [*ahead, "join 1 0"], 2, 2, poll=(2,), marks=(None, None, ("c", "a")), totals=(None, None, 6))

    def test_part_makes_the_left_one_first(self):
        self.assert_played(
            STEPS, ["yes 0 0", "part 0"], 2, 2, poll=(1, 2, 3), marks=(None, ("a", "a"), ("c", "a"), ("d", "a")),
            totals=(None, 0, 4, 2), counts=(None, 0, 0, 1), known=(None, (False,) * 2, (False,) * 2, (False,) * 2))

    def test_a_book_without_rows(self):
        for kind in ("yes", "no", "cut"):
            self.assert_played(book_of(), [f"{kind} 0 0"], marks=(("a",), ("a",)), totals=(0, 0))
        for kind in ("word", "strike"):
            self.assert_played(book_of(), [f"{kind} 0"], marks=(("a",), ("a",)), totals=(0, 0))
        self.assert_played(book_of(), ["join 1 0"], marks=(None, None, ("a",)), totals=(None, None, 0))
        self.assert_played(book_of(), ["part 1"], marks=(("a",), None, ("a",), ("a",)), totals=(0, None, 0, 0))

    def test_new_options_are_numbered_on(self):
        self.assert_played(
            GOOD, ["part 1", "join 0 3", "part 2", "join 6 4"], options=2, poll=(5, 7), marks=(*[None] * 5, ("none",), None, ("none",)))

    def test_count(self):
        book = book_of("yes a to b by 3", "strike any to b by 0")
        ahead = ["yes 0 0", "yes 1 0", "yes 0 1", "yes 0 2", "strike 2", "yes 0 3", "join 3 4"]
        self.assert_played(book, ahead, 2, 5, totals=(6, 3, 3, None, None, 3))
        self.assert_played(
            book, [*ahead, "count"], 2, 5, poll=(0, 1, 5), totals=(2, 1, 3, None, None, 1), counts=(2, 1, 2, None, None, 1))
        self.assert_played(book, ["count", "count", "yes 0 0"], 1, 1, totals=(3,), marks=(("b",),))
        self.assert_played(book, ["yes 0 0", "count", "yes 0 0"], 1, 1, totals=(1,))

    def test_count_where_no_option_is_in_the_poll(self):
        self.assert_played(GOOD, ["yes 0 0", "strike 0", "count"], 1, 1, poll=(), totals=(1,), counts=(1,), now=())


class Late(Polls):
    """Late deeds, to the options whose last edit is the one that the named one went through."""

    def test_an_option_that_was_worded(self):
        self.assert_played(STEPS, ["word 0", "late yes 0 0"], marks=(("d",), ("a",)), totals=(4, 0))
        self.assert_played(STEPS, ["word 0", "word 0", "cut 0 0", "yes 0 0", "late no 0 0"], marks=(("e",), ("a",)))
        self.assert_impossible(["word 0"], "late yes 0 1")

    def test_an_option_that_was_joined(self):
        for named in (0, 1):
            self.assert_played(
                STEPS, ["join 0 1", f"late yes 1 {named}"], 2, 3, marks=(None, None, ("a", "a"), ("a", "d")), totals=(None, None, 0, 3))
        self.assert_impossible(["join 0 1"], "late yes 0 3")
        self.assert_impossible(["join 0 1"], "late yes 0 2")

    def test_an_option_that_was_parted(self):
        self.assert_played(STEPS, ["part 0", "late no 0 0"], marks=(None, ("a",), ("e",), ("e",)), totals=(None, 0, -1, 1))
        for made in (3, 4):
            self.assert_impossible(["part 0"], f"late no 0 {made}")

    def test_one_part_that_is_left(self):
        for edit in ("word 2", "strike 2", "part 2", "join 2 1", "join 1 2"):
            played = play(GOOD, 1, 2, ["part 0", edit, "late yes 0 0"])
            self.assertEqual(played.marks[3], ("in",))
            self.assertTrue(all(marks in (None, ("none",)) for at, marks in enumerate(played.marks) if at != 3))
            played = play(GOOD, 1, 2, ["part 0", edit.replace("2", "3"), "late yes 0 0"])
            self.assertEqual(played.marks[2], ("in",))
        self.assert_played(GOOD, ["part 0", "strike 2", "back 2", "late yes 0 0"], marks=(None, ("none",), ("none",), ("in",)))
        self.assert_played(GOOD, ["part 0", "cut 0 2", "no 0 3", "late yes 0 0"], marks=(None, ("none",), ("in",), ("in",)))

    def test_no_part_that_is_left(self):
        self.assert_impossible(["part 0", "word 3", "strike 4"], "late yes 0 0")
        self.assert_impossible(["part 0", "join 3 4"], "late yes 0 0")
        self.assert_impossible(["part 0", "part 3", "part 4"], "late yes 0 0")

    def test_a_joined_option_that_was_edited_again(self):
        for edit in ("word 3", "strike 3", "part 3", "join 3 2", "join 2 3"):
            self.assert_impossible(["join 0 1", edit], "late yes 0 0")
        self.assert_impossible(["join 0 1", "strike 3", "back 3"], "late yes 0 1")
        self.assert_played(GOOD, ["join 0 1", "word 2", "late yes 0 2"], marks=(None, None, ("in",)))
        self.assert_played(GOOD, ["join 0 1", "part 2", "late yes 0 2"], marks=(None, None, None, ("in",), ("in",)))

    def test_an_option_that_was_worded_and_then_joined(self):
        self.assert_played(GOOD, ["word 0", "join 0 1", "late yes 0 0"], marks=(None, None, ("in",)))
        self.assert_played(GOOD, ["strike 0", "back 0", "part 0", "late yes 0 0"], marks=(None, ("none",), ("in",), ("in",)))

    def test_an_option_that_was_not_edited(self):
        self.assert_impossible([], "late yes 0 0")
        self.assert_impossible(["yes 0 0", "cut 0 0", "count"], "late no 0 0")

    def test_an_option_that_was_struck_or_brought_back(self):
        self.assert_impossible(["strike 0"], "late yes 0 0")
        self.assert_impossible(["word 0", "strike 0"], "late yes 0 0")
        self.assert_impossible(["strike 0", "back 0"], "late yes 0 0")
        self.assert_impossible(["word 0", "strike 0", "back 0"], "late no 0 0")
        self.assert_played(GOOD, ["strike 0", "back 0", "word 0", "late yes 0 0"], marks=(("in",), ("none",)))

    def test_a_late_deed_concerns_one_voter(self):
        self.assert_played(
            GOOD, ["yes 0 0", "part 0", "late yes 2 0"], 3, 1, marks=(None, ("in", "none", "in"), ("in", "none", "in")),
            known=(None, (True, False, True), (True, False, True)), totals=(None, 2, 2))


class Possible(Polls):
    def test_voters_and_options_that_there_are_not(self):
        for kind in ("yes", "no", "late yes", "late no", "cut"):
            for numbers in ("2 0", "0 3", "2 3", "9999 0", "0 9999"):
                self.assert_impossible(["word 0"], f"{kind} {numbers}")
        for kind in ("word", "strike", "back", "part"):
            for number in (3, 4, 9999):
                self.assert_impossible(["strike 0"], f"{kind} {number}")
        for numbers in ("0 3", "3 0", "9999 1"):
            self.assert_impossible([], f"join {numbers}")

    def test_options_that_ended(self):
        for ahead, ended in ((["join 0 1"], (0, 1)), (["part 0"], (0,)), (["part 0", "join 3 4"], (0, 3, 4))):
            for option in ended:
                for event in (
                    f"yes 0 {option}", f"no 0 {option}", f"cut 0 {option}", f"word {option}", f"strike {option}", f"back {option}",
                    f"part {option}", f"join {option} 2", f"join 2 {option}",
                ):
                    self.assert_impossible(ahead, event)

    def test_options_that_were_struck(self):
        for event in (
            "yes 0 0", "no 0 0", "late yes 0 0", "cut 0 0", "word 0", "strike 0", "part 0", "join 0 1", "join 1 0",
        ):
            self.assert_impossible(["strike 0"], event)
            play(GOOD, 2, 3, ["strike 0", "back 0", "word 0", event])

    def test_back_takes_a_struck_option(self):
        self.assert_impossible([], "back 0")
        self.assert_impossible(["strike 1"], "back 0")
        self.assert_impossible(["strike 0", "back 0"], "back 0")

    def test_an_option_with_itself(self):
        self.assert_impossible([], "join 0 0")
        self.assert_impossible(["join 0 1"], "join 3 3")

    def test_the_first_wrong_one_is_named(self):
        self.assert_wrong(["yes 0 0", "yes 0 3", "wrong"], 1)
        self.assert_wrong(["yes 0 0", "count", "wrong", "yes 0 3"], 2)
        self.assert_wrong(["back 0", None], 0)

    def test_what_is_no_sequence(self):
        for value in ANY_VALUES:
            if not isinstance(value, (list, tuple)):
                self.assert_wrong(value, 0)
        self.assert_wrong("count", 0)

    def test_any_values_in_the_place_of_an_event(self):
        for value in ANY_VALUES:
            self.assert_wrong([value], 0)
            self.assert_wrong(("yes 0 0", "count", value, "count"), 2)
        self.assert_wrong([["count"]], 0)

    def test_other_numbers(self):
        for number in ("00", "01", "-1", "+0", "", " ", "0 ", "1.0", "0x0", "a", "10000", "00000", "-0", "\u0660", "\xb2", "1e0", "0\n"):
            for event in (
                f"yes {number} 0", f"yes 0 {number}", f"late no 0 {number}", f"cut {number} 0", f"word {number}", f"join 0 {number}",
                f"join {number} 0", f"part {number}",
            ):
                self.assert_impossible(["word 0"], event)

    def test_numbers_of_several_digits(self):
        events = ["part 0"] + [f"part {at}" for at in range(1, 22, 2)]
        played = play(GOOD, 1, 1, [*events, "yes 0 10", "late yes 0 21"])
        self.assertEqual(played.marks[10], ("in",))
        self.assertEqual(played.marks[23:25], (("in",), ("in",)))

    def test_numbers_of_four_digits_and_more(self):
        played = play(GOOD, 1, 10001, ["yes 0 1000", "yes 0 9999"])
        self.assertEqual([at for at, marks in enumerate(played.marks) if marks == ("in",)], [1000, 9999])
        self.assert_wrong(["yes 0 9999", "yes 0 10000"], 1, 1, 10001)

    def test_other_spaces(self):
        for event in (
            " yes 0 0", "yes 0 0 ", "yes  0 0", "yes 0  0", "yes\t0 0", "yes 0\n0", "yes 0 0\n", "late  yes 0 0", "lateyes 0 0", "yes00",
            "count ", " count", "count\n", "word  0", "word 0 ",
        ):
            self.assert_impossible(["word 0"], event)

    def test_other_words(self):
        for event in (
            "", " ", "yes", "no", "late", "late yes", "word", "strike", "back", "cut", "join", "part", "yes 0", "yes 0 0 0", "late yes 0",
            "late 0 0", "late word 0", "late word 0 0", "late cut 0 0", "late late yes 0 0", "late join 0 1", "word 0 0", "strike 0 1",
            "back 0 0", "cut 0", "cut 0 0 0", "join 0", "join 0 1 2", "part 0 0", "count 0", "counts", "Count", "YES 0 0", "Yes 0 0",
            "0 0", "0 yes 0", "yes,0,0", "yes 0 to 0", "late-yes 0 0", "marks a", "yes none to in by 1", "maybe 0 0", "same 0",
        ):
            self.assert_impossible(["word 0"], event)

    def test_possible_by_every_book(self):
        dice = random.Random(4)
        for seed in range(20):
            events = oracle.random_events(dice, GOOD, 2, 3, 20)
            played = play(oracle.random_book(seed), 2, 3, events)
            self.assertEqual(played.poll, play(GOOD, 2, 3, events).poll)


class Known(Polls):
    """Promise 10, for each kind of event, and by each set of kinds that the book keeps."""

    def assert_known(self, events, known, keeps, option=-1):
        for book in (book_of(keeps=" ".join(keeps)), book_of("yes any to b by 1", "no any to a by 0", keeps=" ".join(keeps))):
            played = play(book, 2, 2, events)
            self.assertEqual(played.known[option], known, (events, keeps))

    def test_by_every_set_of_kinds(self):
        for many in range(6):
            for keeps in itertools.combinations(EDITS, many):
                self.assert_all(keeps)

    def assert_all(self, keeps):
        kept = {kind: kind in keeps for kind in EDITS}
        here = (True, False)
        self.assert_known(["yes 0 1"], here, keeps)
        self.assert_known(["yes 0 1", "yes 1 1", "no 0 1"], (False, True), keeps)
        self.assert_known(["yes 0 1", "strike 1"], here, keeps)
        self.assert_known(["yes 0 1", "count"], here, keeps)
        self.assert_known(["yes 0 1", "word 1"], (kept["word"], False), keeps)
        self.assert_known(["yes 0 1", "strike 1", "back 1"], (kept["back"], False), keeps)
        self.assert_known(["yes 0 1", "yes 1 1", "cut 0 1"], (kept["cut"], True), keeps)
        self.assert_known(["yes 0 1", "join 0 1"], (kept["join"], False), keeps)
        self.assert_known(["yes 0 0", "join 0 1"], (kept["join"], False), keeps)
        self.assert_known(["yes 0 0", "yes 0 1", "no 1 1", "join 1 0"], (kept["join"], False), keeps)
        for option in (-1, -2):
            self.assert_known(["yes 0 1", "part 1"], (kept["part"], False), keeps, option)
            self.assert_known(["part 1", "late yes 0 1"], (kept["part"], False), keeps, option)
            self.assert_known(["part 1", "yes 0 2", "yes 0 3", "late no 0 1"], (not kept["part"], False), keeps, option)
        self.assert_known(["word 1", "late yes 0 1"], (kept["word"], False), keeps)
        self.assert_known(["word 1", "yes 0 1", "late no 0 1"], (not kept["word"], False), keeps)
        self.assert_known(["join 0 1", "late yes 0 1"], (kept["join"], False), keeps)
        self.assert_known(["join 0 1", "yes 0 2", "late no 0 0"], (not kept["join"], False), keeps)
        self.assert_known(["word 1", "yes 0 1", "cut 0 1", "late yes 1 1"], (kept["cut"], kept["word"]), keeps)


class Depths(Polls):
    def test_each_kind_of_event(self):
        for event, wanted in {
            "yes 0 0": ((2, 1, 0), (1, 1, 0)), "no 0 0": ((2, 1, 0), (1, 1, 0)), "cut 1 0": ((1, 1, 0), (2, 1, 0)),
            "late yes 1 0": ((1, 1, 0), (2, 1, 0)), "late no 0 1": ((1, 2, 0), (1, 1, 0)), "word 1": ((1, 2, 0), (1, 2, 0)),
            "strike 2": ((1, 1, 1), (1, 1, 1)), "count": ((1, 1, 0), (1, 1, 0)), "join 0 2": ((1, 1, 0, 2), (1, 1, 0, 2)),
            "part 0": ((1, 1, 0, 2, 2), (1, 1, 0, 2, 2)), "part 2": ((1, 1, 0, 1, 1), (1, 1, 0, 1, 1)),
        }.items():
            self.assertEqual(depths(2, 3, ["word 0", "word 1", event]), wanted, event)

    def test_strike_and_back(self):
        self.assertEqual(depths(1, 1, ["strike 0", "back 0"]), ((2,),))

    def test_join_goes_by_the_deeper_one(self):
        ahead = ["yes 0 0", "yes 0 0", "yes 0 0", "yes 1 1", "yes 1 1"]
        for join in ("join 0 1", "join 1 0"):
            self.assertEqual(depths(3, 2, [*ahead, join]), ((3, 0, 4), (0, 2, 3), (0, 0, 1)))

    def test_a_late_deed_to_both_parts(self):
        self.assertEqual(depths(2, 1, ["part 0", "late yes 1 0"]), ((0, 1, 1), (0, 2, 2)))
        self.assertEqual(depths(2, 1, ["part 0", "word 1", "late yes 1 0"]), ((0, 2, 1), (0, 2, 2)))


class Examples(Polls):
    def test_the_example_of_the_document(self):
        events = ["yes 0 0", "yes 0 1", "join 0 1", "yes 1 2", "part 2", "late no 0 2"]
        played = play(GOOD, 2, 2, events)
        self.assertEqual((played.poll, played.marks, played.totals, played.met, depths(2, 2, events)), (
            (3, 4), (None, None, None, ('none', 'in'), ('none', 'in')), (None, None, None, 1, 1), (),
            ((1, 1, 2, 4, 4), (0, 0, 2, 3, 3))))


class Compared(Polls):
    """Polls that are found by chance, against the oracle."""

    def test_polls_by_chance(self):
        seen = set()
        for seed in range(250):
            dice = random.Random(seed)
            book, voters, options = oracle.random_book(seed), dice.randint(1, 4), dice.randint(1, 6)
            events = oracle.random_events(dice, book, voters, options, dice.choice((3, 12, 40)))
            self.assert_as_told(book, voters, options, events)
            seen |= set(play(book, voters, options, events).met)
        self.assertEqual(seen, set(FAULTS))

    def test_wrong_events_by_chance(self):
        wrong = 0
        for seed in range(250):
            dice = random.Random(seed)
            events = list(oracle.random_events(dice, GOOD, 2, 3, 12))
            kind = dice.choice(("yes", "late yes", "late no", "cut", "word", "strike", "back", "join", "part"))
            numbers = [str(dice.randint(0, 7)) for _ in range(2 if kind in ("yes", "late yes", "late no", "cut", "join") else 1)]
            events.insert(dice.randint(0, len(events)), " ".join([kind, *numbers]))
            wanted = oracle.play(GOOD, 2, 3, events)
            if isinstance(wanted, int):
                wrong += 1
                self.assert_wrong(events, wanted)
            else:
                self.assert_as_told(GOOD, 2, 3, events)
        self.assertGreater(wrong, 50)

    def assert_as_told(self, book, voters, options, events):
        wanted = oracle.play(book, voters, options, events)
        self.assertEqual(depths(voters, options, events), wanted.pop("depths"))
        self.assertEqual(told(play(book, voters, options, events)), wanted, (str(book), events))

    def test_somewhat_beyond_the_limits(self):
        dice = random.Random(9)
        for voters, options in ((6, 9), (1, 12), (5, 6)):
            book = oracle.random_book(voters)
            events = oracle.random_events(dice, book, voters, options, 70)
            self.assert_as_told(book, voters, options, events)

    def test_a_big_poll(self):
        options = 400
        events = [f"yes 0 {at}" for at in range(options)]
        events += [f"join {2 * at} {2 * at + 1}" for at in range(options - 1)]
        played = play(GOOD, 1, options, events)
        self.assertEqual((played.poll, played.marks[-1], played.totals[-1], played.met), ((798,), ("in",), 1, ()))


if __name__ == "__main__":
    unittest.main()
