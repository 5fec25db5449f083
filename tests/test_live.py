"""Promise 20: polls that go on, and what can be taken back."""

import inspect
import random
import unittest

from forkpolls import live as live_module
from forkpolls.books import Book
from forkpolls.deciding import story
from forkpolls.errors import InvalidEvent, Refused
from forkpolls.live import Live
from forkpolls.polls import Played, play
from tests import oracle
from tests.books import GOOD, LINES, POOR, book_of
from tests.values import ANY_VALUES

ATTRIBUTES = ("poll", "marks", "known", "totals", "counts", "now", "met")

OTHER = book_of("yes a to b by 2", "no b to a by 1", "join any any to other by -1", "part any to a b by 0 3", "word b to c by 1")


class Stop(Exception):
    """An error that a block in a test raises."""


def told(played):
    """Return all attributes of what was played."""
    return {name: getattr(played, name) for name in ATTRIBUTES}


def totals_in(book, voters, options, events):
    """Return the totals of the options in the poll."""
    played = play(book, voters, options, events)
    return tuple(played.totals[option] for option in played.poll)


class LivePolls(unittest.TestCase):
    def assert_at(self, live, book, events, many, voters=2, options=3):
        """Check all that a live poll tells."""
        self.assertEqual(live.events, tuple(events))
        self.assertIsInstance(live.events, tuple)
        self.assertEqual(live.book, book)
        self.assertEqual(len(live), many)
        self.assertIsInstance(live.played, Played)
        self.assertEqual(told(live.played), told(play(book, voters, options, list(events))))

    def assert_invalid(self, live, event, at):
        before = live.events, len(live), told(live.played)
        with self.assertRaises(InvalidEvent) as caught:
            live.do(event)
        self.assertEqual(caught.exception.at, at)
        self.assertEqual((live.events, len(live), told(live.played)), before)

    def assert_refused(self, live, events, at, number):
        before = live.events, len(live), told(live.played)
        with self.assertRaises(Refused) as caught:
            live.several(events)
        self.assertEqual(caught.exception.at, at)
        self.assertIs(type(caught.exception.__cause__), InvalidEvent)
        self.assertEqual(caught.exception.__cause__.at, number)
        self.assertEqual((live.events, len(live), told(live.played)), before)


class Interface(LivePolls):
    def test_parameters_and_where_things_are_defined(self):
        self.assertEqual(Live.__module__, "forkpolls.live")
        self.assertIs(live_module.Live, Live)
        self.assertEqual(list(inspect.signature(Live).parameters), ["book", "voters", "options"])
        for name, words in {
            "do": ["event"], "several": ["events"], "change": ["book"], "undo": [], "trial": [], "within": ["work"], "__len__": [],
        }.items():
            self.assertEqual(list(inspect.signature(vars(Live)[name]).parameters), ["self", *words])

    def test_properties(self):
        for name in ("book", "events", "played"):
            self.assertIsInstance(vars(Live)[name], property)
        for name in ("events", "played"):
            with self.assertRaises(AttributeError):
                setattr(Live(GOOD, 1, 1), name, ())

    def test_arguments_by_name(self):
        live = Live(options=3, voters=2, book=GOOD)
        self.assertEqual(live.do(event="yes 0 1"), (0, 1, 0))
        self.assertEqual(live.several(events=["no 0 1"]), ((0, 0, 0),))
        self.assertIsNone(live.change(book=POOR))
        self.assertEqual(live.within(work=len), 3)
        self.assert_at(live, POOR, ["yes 0 1", "no 0 1"], 3)

    def test_a_live_poll_is_not_iterable(self):
        live = Live(GOOD, 1, 1)
        for thing in (live, live.trial(), live.played):
            with self.assertRaises(TypeError):
                iter(thing)
            with self.assertRaises(TypeError):
                list(thing)


class Do(LivePolls):
    def test_the_beginning(self):
        for voters in range(1, 5):
            for options in range(1, 7):
                self.assert_at(Live(GOOD, voters, options), GOOD, (), 0, voters, options)

    def test_totals_of_the_options_in_the_poll(self):
        live = Live(GOOD, 2, 3)
        for event, wanted in (
            ("yes 0 0", (1, 0, 0)), ("yes 0 1", (1, 1, 0)), ("join 1 0", (0, 1)), ("yes 1 3", (0, 2)), ("part 3", (0, 2, 2)),
            ("late no 1 3", (0, 1, 1)), ("strike 4", (0, 1)), ("count", (0, 1)), ("word 2", (0, 1)), ("back 4", (0, 1, 1)),
            ("cut 0 2", (0, 1, 1)), ("strike 2", (1, 1)), ("strike 4", (1,)), ("strike 5", ()), ("back 2", (0,)),
        ):
            self.assertEqual(live.do(event), wanted)
        self.assertEqual(len(live), 15)
        self.assertEqual(len(live.events), 15)

    def test_wrong_events(self):
        live = Live(GOOD, 2, 3)
        for number, event in enumerate(("yes 0 0", "join 0 1", "strike 2")):
            self.assert_invalid(live, "yes 9 0", number)
            live.do(event)
        for event in ("yes 2 3", "yes 0 0", "word 2", "back 3", "join 3 3", "late yes 0 2", "yes 00 3", "yes 0 3 ", "", "do", "count 1"):
            self.assert_invalid(live, event, 3)
        live.undo()
        self.assert_invalid(live, "word 0", 2)
        live.do("word 2")
        self.assert_at(live, GOOD, ["yes 0 0", "join 0 1", "word 2"], 3)

    def test_any_values_in_the_place_of_an_event(self):
        live = Live(GOOD, 2, 3)
        live.do("yes 0 0")
        for value in (*ANY_VALUES, ["yes 0 0"], ("count",), live):
            self.assert_invalid(live, value, 1)
        self.assert_at(live, GOOD, ["yes 0 0"], 1)

    def test_two_live_polls_of_one_book(self):
        one, other = Live(GOOD, 2, 3), Live(GOOD, 2, 3)
        one.do("yes 0 0")
        self.assert_at(other, GOOD, (), 0)
        other.several(["word 1", "yes 1 1"])
        one.book = POOR
        self.assert_at(one, POOR, ["yes 0 0"], 2)
        self.assert_at(other, GOOD, ["word 1", "yes 1 1"], 1)
        self.assertEqual(str(GOOD), "\n".join(LINES))

    def test_what_was_told_before_stays(self):
        live = Live(POOR, 2, 3)
        live.do("yes 0 0")
        played, events, before = live.played, live.events, told(live.played)
        live.do("join 0 1")
        live.book = OTHER
        live.undo()
        self.assertEqual((told(played), events), (before, ("yes 0 0",)))

    def test_reading_changes_nothing(self):
        live = Live(POOR, 2, 3)
        live.several(["yes 0 0", "join 0 1", "part 3"])
        for _ in range(3):
            self.assert_at(live, POOR, ["yes 0 0", "join 0 1", "part 3"], 1)

    def test_faults_that_were_met_at_some_moment(self):
        live = Live(POOR, 1, 2)
        live.do("yes 0 0")
        self.assertEqual((live.played.now, live.played.met), ((("side", 0), ("side", 1)), ("side",)))
        live.do("yes 0 1")
        self.assertEqual((live.played.now, live.played.met), ((), ("side",)))
        live.book = GOOD
        self.assertEqual((live.played.now, live.played.met), ((), ()))
        live.undo()
        self.assertEqual((live.played.now, live.played.met), ((), ("side",)))
        live.undo()
        live.undo()
        self.assertEqual((live.played.now, live.played.met), ((), ()))


class Several(LivePolls):
    def test_all_at_once(self):
        live = Live(GOOD, 2, 3)
        events = ["yes 0 0", "yes 1 0", "join 0 2", "count"]
        self.assertEqual(live.several(events), ((1, 0, 0), (2, 0, 0), (0, 2), (0, 2)))
        self.assert_at(live, GOOD, events, 1)
        self.assertEqual(live.several(("part 3",)), ((0, 2, 2),))
        self.assert_at(live, GOOD, [*events, "part 3"], 2)
        self.assertTrue(live.undo())
        self.assert_at(live, GOOD, events, 1)

    def test_no_events(self):
        live = Live(GOOD, 2, 3)
        self.assertEqual((live.several([]), live.several(())), ((), ()))
        self.assert_at(live, GOOD, (), 2)
        self.assertTrue(live.undo() and live.undo())
        self.assertFalse(live.undo())

    def test_one_that_is_wrong(self):
        events = ["yes 0 0", "join 0 1", "word 3", "part 3"]
        for ahead in ([], ["word 2"], ["word 2", "yes 1 2"]):
            live = Live(GOOD, 2, 3)
            live.several(ahead)
            for at in range(5):
                for wrong in ("yes 0 9", "word", None, 3, ["count"], GOOD):
                    self.assert_refused(live, [*events[:at], wrong, *events[at:]], at, at + len(ahead))
                    self.assert_refused(live, (*events[:at], wrong, None, "no"), at, at + len(ahead))
            self.assert_at(live, GOOD, ahead, 1)
            live.several(events)
            self.assert_at(live, GOOD, [*ahead, *events], 2)

    def test_what_is_no_sequence(self):
        for many in range(3):
            live = Live(GOOD, 2, 3)
            live.several(["count"] * many)
            for value in ANY_VALUES:
                if not isinstance(value, (list, tuple)):
                    self.assert_refused(live, value, 0, many)
            self.assert_refused(live, "count", 0, many)

    def test_any_values_in_the_place_of_an_event(self):
        live = Live(GOOD, 2, 3)
        live.do("count")
        for value in (*ANY_VALUES, "", "yes 0", live):
            self.assert_refused(live, [value], 0, 1)
            self.assert_refused(live, ("yes 0 0", "yes 1 0", value), 2, 3)

    def test_later_changes_to_an_argument(self):
        live, events = Live(GOOD, 2, 3), ["yes 0 0", "word 1"]
        live.several(events)
        self.assertEqual(events, ["yes 0 0", "word 1"])
        events.append("count")
        events[0] = "no 0 0"
        self.assert_at(live, GOOD, ["yes 0 0", "word 1"], 1)


class Change(LivePolls):
    EVENTS = ["yes 0 0", "word 0", "join 0 1", "part 3", "no 1 4", "count"]

    def test_the_same_events_happen_by_the_other_book(self):
        for way in (Live.change, lambda live, book: setattr(live, "book", book)):
            live = Live(GOOD, 2, 3)
            live.several(self.EVENTS)
            for many, book in enumerate((POOR, OTHER, GOOD)):
                self.assertIsNone(way(live, book))
                self.assert_at(live, book, self.EVENTS, many + 2)
                self.assertIs(live.book, book)
            for book in (OTHER, POOR, GOOD):
                self.assertTrue(live.undo())
                self.assert_at(live, book, self.EVENTS, len(live))

    def test_what_goes_on_by_the_other_book(self):
        live = Live(GOOD, 2, 3)
        live.several(self.EVENTS[:2])
        live.book = OTHER
        for many in range(2, 6):
            self.assertEqual(live.do(self.EVENTS[many]), totals_in(OTHER, 2, 3, self.EVENTS[:many + 1]))
        self.assert_at(live, OTHER, self.EVENTS, 6)

    def test_an_equal_book(self):
        live = Live(GOOD, 2, 3)
        live.change(GOOD)
        live.book = Book.read(str(GOOD))
        self.assert_at(live, GOOD, (), 2)
        self.assertTrue(live.undo())
        self.assertIs(live.book, GOOD)
        self.assertTrue(live.undo())
        self.assertFalse(live.undo())

    def test_at_the_beginning(self):
        live = Live(GOOD, 2, 3)
        live.book = OTHER
        self.assert_at(live, OTHER, (), 1)
        live.do("part 0")
        self.assert_at(live, OTHER, ["part 0"], 2)


class Undo(LivePolls):
    def test_behind_each(self):
        live = Live(GOOD, 2, 3)
        states = [(GOOD, ())]
        live.do("yes 0 0")
        states.append((GOOD, ("yes 0 0",)))
        live.several(["yes 1 0", "join 0 1"])
        states.append((GOOD, ("yes 0 0", "yes 1 0", "join 0 1")))
        live.change(OTHER)
        states.append((OTHER, states[-1][1]))
        live.several([])
        states.append(states[-1])
        live.book = POOR
        states.append((POOR, states[-1][1]))
        live.do("word 2")
        states.append((POOR, (*states[-1][1], "word 2")))
        for many in reversed(range(len(states))):
            self.assert_at(live, *states[many], many)
            self.assertIs(live.undo(), many > 0)

    def test_nothing_is_left(self):
        live = Live(GOOD, 2, 3)
        for _ in range(3):
            self.assertIs(live.undo(), False)
        self.assert_at(live, GOOD, (), 0)
        live.do("count")
        self.assertIs(live.undo(), True)
        self.assertIs(live.undo(), False)
        self.assert_at(live, GOOD, (), 0)

    def test_behind_what_was_wrong(self):
        live = Live(GOOD, 2, 3)
        live.do("yes 0 0")
        self.assert_invalid(live, "word 9", 1)
        self.assert_refused(live, ["word 0", "word 9"], 1, 2)
        self.assertTrue(live.undo())
        self.assert_at(live, GOOD, (), 0)

    def test_what_is_done_anew(self):
        live = Live(GOOD, 2, 3)
        live.do("join 0 1")
        live.undo()
        self.assertEqual(live.do("word 0"), (0, 0, 0))
        self.assertEqual(live.several(["join 1 2", "part 3"]), ((0, 0), (0, 0, 0)))
        live.undo()
        self.assertEqual(live.do("join 2 1"), (0, 0))
        self.assert_at(live, GOOD, ["word 0", "join 2 1"], 2)


class Trials(LivePolls):
    def live(self):
        """Return a live poll that has gone through something."""
        live = Live(GOOD, 2, 3)
        live.do("yes 0 0")
        live.several(["yes 1 1", "join 0 1"])
        return live

    EVENTS = ("yes 0 0", "yes 1 1", "join 0 1")

    def assert_back(self, live):
        self.assert_at(live, GOOD, self.EVENTS, 2)
        self.assertTrue(live.undo())
        self.assert_at(live, GOOD, self.EVENTS[:1], 1)
        self.assertTrue(live.undo())
        self.assertFalse(live.undo())

    def test_the_value_is_the_live_poll(self):
        live = self.live()
        with live.trial() as held:
            self.assertIs(held, live)
            self.assert_at(live, GOOD, self.EVENTS, 2)
        self.assert_back(live)

    def test_all_is_as_it_was(self):
        live = self.live()
        with live.trial():
            self.assertEqual(live.do("word 3"), (0, 2))
            live.several(["part 3", "no 1 4"])
            live.book = OTHER
            self.assert_at(live, OTHER, [*self.EVENTS, "word 3", "part 3", "no 1 4"], 5)
        self.assert_back(live)

    def test_an_undo_behind_its_beginning(self):
        live = self.live()
        with live.trial():
            live.do("word 3")
            for wanted in (True, True, True, False):
                self.assertIs(live.undo(), wanted)
            self.assert_at(live, GOOD, (), 0)
            live.do("strike 2")
            self.assert_at(live, GOOD, ["strike 2"], 1)
        self.assert_back(live)

    def test_an_error_goes_on(self):
        live = self.live()
        for error in (Stop("here"), KeyboardInterrupt(), InvalidEvent(5)):
            with self.assertRaises(type(error)) as caught:
                with live.trial():
                    live.do("word 3")
                    live.undo()
                    live.undo()
                    raise error
            self.assertIs(caught.exception, error)
            self.assert_at(live, GOOD, self.EVENTS, 2)
        with self.assertRaises(InvalidEvent) as caught:
            with live.trial():
                live.do("word 3")
                live.do("word 9")
        self.assertEqual(caught.exception.at, 4)
        self.assert_back(live)

    def test_left_by_return_and_break(self):
        live = self.live()

        def leave():
            with live.trial():
                live.do("word 3")
                return live.events
        self.assertEqual(leave(), (*self.EVENTS, "word 3"))
        for _ in range(2):
            with live.trial():
                live.undo()
                break
        self.assert_back(live)

    def test_trials_in_trials(self):
        live = self.live()
        with live.trial():
            live.do("word 3")
            with self.assertRaises(Stop):
                with live.trial() as held:
                    held.book = POOR
                    held.undo()
                    held.undo()
                    held.undo()
                    with held.trial():
                        held.do("strike 1")
                        self.assert_at(live, GOOD, ["yes 0 0", "strike 1"], 2)
                    self.assert_at(live, GOOD, ["yes 0 0"], 1)
                    raise Stop
            self.assert_at(live, GOOD, [*self.EVENTS, "word 3"], 3)
            live.do("count")
            with live.trial():
                live.several([])
            self.assert_at(live, GOOD, [*self.EVENTS, "word 3", "count"], 4)
        self.assert_back(live)

    def test_as_it_was_when_it_was_entered(self):
        live = self.live()
        trial = live.trial()
        live.do("word 3")
        with trial:
            live.undo()
            live.undo()
        self.assert_at(live, GOOD, [*self.EVENTS, "word 3"], 3)

    def test_each_trial_is_a_new_one(self):
        live = self.live()
        self.assertIsNot(live.trial(), live.trial())
        for _ in range(2):
            with live.trial():
                live.do("word 3")
        one, other = live.trial(), live.trial()
        with one, other:
            live.do("word 3")
        self.assert_back(live)

    def test_a_trial_is_entered_once(self):
        live = self.live()
        trial = live.trial()
        with trial:
            live.do("word 3")
        live.do("part 3")
        with self.assertRaises(RuntimeError):
            with trial:
                self.fail("entered twice")
        self.assert_at(live, GOOD, [*self.EVENTS, "part 3"], 3)
        trial = live.trial()
        with self.assertRaises(RuntimeError):
            with trial:
                live.undo()
                with trial:
                    self.fail("entered twice")
        self.assert_at(live, GOOD, [*self.EVENTS, "part 3"], 3)

    def test_an_undo_behind_a_trial(self):
        live = self.live()
        with live.trial():
            live.several(["word 3", "word 3"])
            live.do("part 3")
        self.assertTrue(live.undo())
        self.assert_at(live, GOOD, ["yes 0 0"], 1)

    def test_within(self):
        live = self.live()

        def work(held):
            self.assertIs(held, live)
            held.several(["part 3", "strike 4"])
            held.book = OTHER
            return [held.events, held.within(lambda one: (one.undo(), one.book)), held.book]
        self.assertEqual(live.within(work), [(*self.EVENTS, "part 3", "strike 4"), (True, GOOD), OTHER])
        self.assertIsNone(live.within(lambda held: None))
        self.assertEqual(live.within(lambda held: held.do("count")), (0, 2))
        self.assert_back(live)

    def test_within_that_raises(self):
        live = self.live()

        def work(held):
            held.undo()
            held.do("strike 1")
            raise Stop("within")
        with self.assertRaises(Stop):
            live.within(work)
        self.assert_back(live)


class Compared(LivePolls):
    def test_all_there_is_by_chance(self):
        for seed in range(40):
            self.go_on(random.Random(seed), Live(GOOD, 2, 3), [(GOOD, ())], 25)

    def go_on(self, dice, live, states, many):
        """Do things by chance, and compare with a list of what there was."""
        for _ in range(many):
            book, events = states[-1]
            self.assert_at(live, book, events, len(states) - 1)
            what = dice.choice(("do", "do", "do", "several", "wrong", "undo", "undo", "change", "trial"))
            more = self.more_events(dice, events, dice.randint(0, 3))
            if what == "do" and more:
                self.assertEqual(live.do(more[0]), totals_in(book, 2, 3, [*events, more[0]]))
                states.append((book, (*events, more[0])))
            elif what == "several":
                wanted = tuple(totals_in(book, 2, 3, [*events, *more[:at + 1]]) for at in range(len(more)))
                self.assertEqual(live.several(more), wanted)
                states.append((book, (*events, *more)))
            elif what == "wrong":
                self.assert_refused(live, [*more, "yes 0 99", *more], len(more), len(events) + len(more))
            elif what == "undo":
                self.assertIs(live.undo(), len(states) > 1)
                states = states[:-1] if len(states) > 1 else states
            elif what == "change":
                book = dice.choice((GOOD, POOR, OTHER))
                live.change(book)
                states.append((book, events))
            elif what == "trial" and many > 3:
                with live.trial() as held:
                    self.go_on(dice, held, list(states), many // 4)

    def more_events(self, dice, events, many):
        """Return some events that are possible behind others."""
        poll = oracle.Poll(GOOD, 2, 3)
        for event in events:
            poll.do(event)
        found = []
        for _ in range(many * 10):
            at, to = dice.randrange(len(poll.options)), dice.randrange(len(poll.options))
            event = dice.choice((
                f"yes 0 {at}", f"no 1 {at}", f"late yes 1 {at}", f"cut 0 {at}", f"word {at}", f"strike {at}", f"back {at}",
                f"join {at} {to}", f"part {at}", "count"))
            try:
                poll.do(event)
            except oracle.NotPossible:
                continue
            found.append(event)
            if len(found) == many:
                break
        return found

    def test_a_story_that_was_told_of_a_book(self):
        names = "abcdefgh"
        rows = [f"join {one} {one} to {two} by 0" for one, two in zip(names, names[1:])]
        book = book_of(*rows, "join any any to a by 0", marks=" ".join(names), counted="h")
        options, events = story(book, "false")
        self.assertEqual((options, len(events)), (128, 127))
        live = Live(book, 1, options)
        for event in events:
            live.do(event)
        self.assert_at(live, book, events, 127, 1, options)
        self.assertEqual(live.played.now, (("apart", 254), ("false", 254), ("stuck", 254)))
        self.assertEqual(len(live.several(["count"] * 3)), 3)

    def test_somewhat_beyond_the_limits(self):
        live = Live(GOOD, 6, 9)
        events = [f"yes {voter} {option}" for voter in range(6) for option in range(9)]
        self.assertEqual(live.several(events)[-1], (6,) * 9)
        self.assert_at(live, GOOD, events, 1, 6, 9)


if __name__ == "__main__":
    unittest.main()
