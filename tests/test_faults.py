"""Promise 11: the six faults of polls, met and not met, and where they are judged."""

import unittest

from forkpolls.polls import play
from tests import oracle
from tests.books import FAULTS, GOOD, LINES, POOR, book_of

DEEDS = ("yes none to in by 1", "no in to none by -1")


def fair(*rows, **words):
    """Return a book by which it never matters which option is joined to the other one."""
    return book_of(*rows, "join any any to a by 0", **words)


class Faults(unittest.TestCase):
    def assert_now(self, book, events, now, met=None, voters=1, options=2):
        played = play(book, voters, options, events)
        self.assertEqual(played.now, now, events)
        if met is not None:
            self.assertEqual(played.met, met, events)

    def test_none_at_the_beginning(self):
        for seed in range(60):
            for voters, options in ((1, 1), (1, 3), (3, 2)):
                self.assert_now(oracle.random_book(seed), [], (), (), voters, options)

    def test_none_by_a_good_book(self):
        events = ["yes 0 0", "yes 1 1", "word 0", "late no 0 0", "yes 0 0", "part 0", "join 2 1", "cut 1 4", "late yes 1 1", "count"]
        for many in range(len(events) + 1):
            self.assert_now(GOOD, events[:many], (), (), 2, 2)


class Again(Faults):
    def test_a_deed_that_would_change_the_mark_once_more(self):
        book = fair("yes a to b by 1", "yes b to c by -1", "no c to a by 0", "no b to a by -1", keeps="word")
        self.assert_now(book, ["yes 0 1"], (("again", 1),), ("again",))
        self.assert_now(book, ["yes 0 1", "yes 0 1"], (("missed", 1),), ("again", "missed"))
        self.assert_now(book, ["yes 0 1", "count"], (), ("again",))
        self.assert_now(book, ["yes 0 1", "no 0 0"], (), ("again",))
        self.assert_now(book, ["no 0 1"], (), ())

    def test_a_deed_that_would_add_once_more(self):
        book = fair("yes any to b by 1", "no any to a by 0")
        self.assert_now(book, ["yes 0 0"], (("again", 0),), ("again",))
        self.assert_now(fair("yes a to b by 1", "yes b to same by 0"), ["yes 0 0"], (("stuck", 0),))
        self.assert_now(fair("no a to same by -1"), ["no 0 0"], (("again", 0), ("apart", 0)))

    def test_a_mark_that_goes_to_and_fro(self):
        book = fair("yes a to b by 1", "yes b to a by -1")
        self.assert_now(book, ["yes 0 0"], (("again", 0),))

    def test_late_deeds_at_each_option_that_they_come_to(self):
        book = fair("late yes a to b by 1", "late yes b to c by -1", "no b to a by -1", keeps="part word")
        self.assert_now(book, ["part 0", "late yes 0 0"], (("again", 2), ("again", 3)))
        self.assert_now(book, ["part 0", "word 3", "late yes 0 0"], (("again", 2),))
        self.assert_now(book, ["word 1", "late yes 0 1"], (("again", 1),))
        self.assert_now(book, ["word 1", "yes 0 1"], (("missed", 1),))

    def test_only_the_voter_of_the_deed(self):
        book = fair("yes a to b by 1", "yes b to c by -1", "no any to a by 0")
        self.assert_now(book, ["yes 0 0", "yes 0 0", "yes 1 0"], (("again", 0), ("missed", 0)), voters=2)
        self.assert_now(book, ["yes 1 0", "yes 0 0", "yes 0 0"], (("missed", 0),), voters=2)

    def test_a_cut_and_edits_are_no_deeds(self):
        book = fair("cut a to c by 0", "cut c to a by 0", "word any to same by 0", "word a to c by 1")
        for events in (["cut 0 0"], ["word 0"], ["strike 0"], ["strike 0", "back 0"], ["part 0"], ["join 0 1"], ["count"]):
            self.assert_now(book, events, (), ())


class Apart(Faults):
    def test_a_step_that_adds_another_number(self):
        for row in ("yes a to b by 0", "yes a to b by 2", "yes a to b by -1", "yes a to same by 1", "yes a to c by 1"):
            now = play(fair(row, "no any to a by 0"), 1, 2, ["yes 0 1"]).now
            self.assertIn(("apart", 1), now)
            self.assertNotIn(("apart", 0), now)
        self.assertNotIn(("apart", 1), play(fair("yes a to b by 1", "no any to a by 0"), 1, 2, ["yes 0 1"]).now)

    def test_struck_options_are_judged(self):
        book = fair("strike a to same by 1", "back a to same by -1")
        self.assert_now(book, ["strike 0"], (("apart", 0),), ("apart",))
        self.assert_now(book, ["strike 0", "count"], (("apart", 0),), ("apart",))
        self.assert_now(book, ["strike 0", "back 0"], (), ("apart",))
        self.assert_now(fair("strike a to b by 1"), ["strike 0"], (), ())

    def test_ended_options_are_not_judged(self):
        book = fair("no a to same by 1", "join any any to one by -1", "part any to same same by -1 0")
        self.assert_now(book, ["no 0 0", "join 0 1"], (), ("again", "apart"))
        self.assert_now(book, ["no 0 0", "part 0"], (), ("again", "apart"))

    def test_count_sets_totals_right(self):
        book = fair("no a to same by 1")
        self.assert_now(book, ["no 0 0", "no 0 0", "no 0 1"], (("again", 1), ("apart", 0), ("apart", 1)))
        self.assert_now(book, ["no 0 0", "no 0 0", "no 0 1", "count"], (), ("again", "apart"))

    def test_each_part_and_the_joined_one(self):
        self.assert_now(fair("part a to a a by 1 0"), ["part 0"], (("apart", 2),))
        self.assert_now(fair("part a to a a by 0 1"), ["part 0"], (("apart", 3),))
        self.assert_now(fair("part a to a b by 0 0", "no b to a by 0"), ["part 0"], (("apart", 3), ("false", 3)))
        self.assert_now(fair("join a a to a by 1"), ["join 0 1"], (("apart", 2),))

    def test_voters_that_make_up_for_each_other(self):
        book = fair("no a to same by 1", "cut a to same by -1")
        self.assert_now(book, ["no 0 0", "cut 1 0"], (), ("again", "apart"), 2)


class FalseOnes(Faults):
    def test_a_counted_mark_that_is_not_known(self):
        book = fair("no a to b by 1", "yes b to c by 0", "no c to a by -1", counted="b c")
        self.assert_now(book, ["no 0 0"], (("false", 0),), ("false",))
        self.assert_now(book, ["no 1 0", "no 0 0", "yes 0 0"], (("false", 0),), ("false",), 2)
        self.assert_now(book, ["no 0 0", "strike 0"], (), ("false",))

    def test_an_edit_that_is_not_kept(self):
        rows = ("yes a to b by 1", "no b to a by -1", "late yes a to b by 1")
        self.assert_now(fair(*rows), ["yes 0 0", "word 0"], (("false", 0),))
        self.assert_now(fair(*rows, keeps="word"), ["yes 0 0", "word 0"], ())
        self.assert_now(fair(*rows), ["word 0", "late yes 0 0"], (("false", 0),))
        self.assert_now(fair(*rows, keeps="word"), ["word 0", "late yes 0 0"], ())


class Missed(Faults):
    def test_a_mark_that_is_known_and_not_counted(self):
        self.assert_now(fair(), ["yes 0 1"], (("missed", 1),), ("missed",))
        self.assert_now(fair(), ["yes 0 1", "no 0 1"], (), ("missed",))
        self.assert_now(fair(), ["yes 1 1"], (("missed", 1),), ("missed",), 2)
        self.assert_now(fair(), ["yes 0 1", "strike 1"], (), ("missed",))

    def test_a_vote_that_a_joining_loses(self):
        self.assert_now(POOR, ["yes 0 1", "join 0 1"], (("apart", 2), ("missed", 2)), ("apart", "missed", "side"))
        self.assert_now(POOR, ["yes 0 1", "join 1 0"], (), ("side",))


class Side(Faults):
    def test_both_options_are_named(self):
        self.assert_now(POOR, ["yes 0 1"], (("side", 0), ("side", 1)), ("side",))
        self.assert_now(POOR, ["yes 0 1"], (("side", 0), ("side", 1), ("side", 2)), ("side",), options=3)
        self.assert_now(POOR, ["yes 0 1", "yes 0 0"], (), ("side",))
        self.assert_now(POOR, ["yes 0 0"], (), (), options=1)

    def test_other_numbers_are_enough(self):
        book = book_of("yes a to b by 1", "no b to a by -1", "join a b to b by 1", "join b a to b by 0")
        self.assert_now(book, ["yes 0 0"], (("side", 0), ("side", 1)))
        self.assert_now(book_of(*DEEDS, "join any any to in by 0", marks="none in", counted="in"), ["yes 0 0"], ())

    def test_any_voter(self):
        self.assert_now(POOR, ["yes 2 0", "yes 0 1", "yes 0 0"], (("side", 0), ("side", 1)), voters=3)
        self.assert_now(POOR, ["yes 0 0", "yes 1 0", "yes 0 1", "yes 1 1"], (), ("side",), 2)

    def test_struck_options_are_not_judged(self):
        self.assert_now(POOR, ["strike 0", "yes 0 1"], (), ())
        self.assert_now(POOR, ["strike 0", "yes 0 1", "back 0"], (("side", 0), ("side", 1)), ("side",))
        self.assert_now(POOR, ["yes 0 1", "strike 1"], (), ("side",))

    def test_parts_of_one_option(self):
        book = book_of("part any to a c by 0 0")
        self.assert_now(book, ["part 0"], (("side", 1), ("side", 2)), ("side",), options=1)


class Stuck(Faults):
    def test_a_counted_mark_without_a_way_out(self):
        self.assert_now(fair("yes a to b by 1"), ["yes 0 1"], (("stuck", 1),), ("stuck",))
        self.assert_now(fair("yes a to b by 1"), ["yes 1 1"], (("stuck", 1),), ("stuck",), 2)
        self.assert_now(fair("yes a to b by 1"), ["yes 0 1", "strike 1"], (), ("stuck",))
        self.assert_now(fair("yes a to b by 1", "no b to a by -1"), ["yes 0 1"], (), ())

    def test_late_deeds_and_edits_are_no_way_out(self):
        book = fair("yes a to b by 1", "late no b to a by -1", "word b to a by -1", "cut b to a by -1")
        self.assert_now(book, ["yes 0 0"], (("stuck", 0),))

    def test_ways_of_several_steps(self):
        rows = ["yes a to b by 1", "no b to c by 0", "yes c to d by 0", "no d to a by -1"]
        book = fair(*rows, marks="a b c d", counted="b c d")
        self.assertNotIn("stuck", play(book, 1, 1, ["yes 0 0"]).met)
        book = fair(*rows[:3], "no d to b by 0", marks="a b c d", counted="b c d")
        self.assertIn(("stuck", 0), play(book, 1, 1, ["yes 0 0"]).now)
        book = fair("yes a to b by 1", "yes b to a by -1")
        self.assertNotIn("stuck", play(book, 1, 1, ["yes 0 0"]).met)


class Told(Faults):
    def test_now_and_met_are_ascending(self):
        book = book_of("yes a to b by 2", "yes b to d by 0", "no a to c by 0", marks="a b c d", counted="b c")
        self.assert_now(
            book, ["no 0 0", "yes 0 1"],
            (("again", 1), ("apart", 0), ("apart", 1), ("false", 0), ("side", 0), ("side", 1), ("side", 2), ("stuck", 0)),
            ("again", "apart", "false", "side", "stuck"), options=3)

    def test_met_keeps_what_is_gone(self):
        played = play(POOR, 1, 2, ["yes 0 1", "yes 0 0", "join 0 1"])
        self.assertEqual((played.now, played.met), ((), ("side",)))

    def test_the_overview(self):
        twice = GOOD.without(4)
        self.assertEqual(str(GOOD[4]), LINES[7])
        self.assert_now(twice, ["yes 0 0", "yes 0 1", "join 0 1"], (("apart", 2),), ("apart",))
        self.assertEqual(play(twice, 1, 2, ["yes 0 0", "yes 0 1", "join 0 1"]).totals[2], 2)
        for fault in FAULTS:
            self.assertNotIn(fault, play(GOOD, 1, 2, ["yes 0 0", "yes 0 1", "join 0 1"]).met)


if __name__ == "__main__":
    unittest.main()
