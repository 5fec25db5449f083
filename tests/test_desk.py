"""Promises 21 and 22: desks, their commands, and what is no command."""

import inspect
import random
import unittest

from forkpolls import desk as desk_module
from forkpolls.books import Book
from forkpolls.deciding import depth, faults
from forkpolls.desk import Desk
from forkpolls.errors import InvalidBook, InvalidCommand, InvalidEvent, InvalidText
from forkpolls.live import Live
from forkpolls.polls import play
from tests import oracle
from tests.books import FAULTS, GOOD, LINES, POOR, book_of
from tests.values import ANY_VALUES

GOOD_TEXT = " ; ".join(LINES)

POOR_TEXT = str(POOR).replace("\n", " ; ")

# A command of each form.
COMMANDS = (f"book {GOOD_TEXT}", "begin 2 3", "do yes 0 1", "mark 0 1", "faults", "depth side", "undo")


def state(desk):
    """Return all that can be seen of a desk."""
    live = desk.live
    return desk.kept_book, live, live and (live.book, live.events, len(live), vars(live.played))


class Desks(unittest.TestCase):
    def ready(self, *commands, voters=2, options=3):
        """Return a desk with the good book and a live poll, at which some commands were done."""
        desk = Desk()
        desk.say(f"book {GOOD_TEXT}")
        desk.say(f"begin {voters} {options}")
        for command in commands:
            desk.say(command)
        return desk

    def assert_wrong(self, desk, command, error=InvalidCommand):
        """Check that a command raises this very error, which it returns, and changes nothing."""
        before = state(desk)
        with self.assertRaises(error) as caught:
            desk.say(command)
        self.assertIs(type(caught.exception), error, command)
        self.assertEqual(state(desk), before, command)
        return caught.exception

    def assert_said(self, desk, *pairs):
        for command, wanted in pairs:
            self.assertEqual(desk.say(command), wanted, command)


class Interface(Desks):
    def test_parameters_and_where_things_are_defined(self):
        self.assertEqual(Desk.__module__, "forkpolls.desk")
        self.assertIs(desk_module.Desk, Desk)
        self.assertEqual(list(inspect.signature(Desk).parameters), [])
        self.assertEqual(list(inspect.signature(vars(Desk)["say"]).parameters), ["self", "command"])

    def test_the_attributes_at_first(self):
        self.assertEqual(vars(Desk()), {"kept_book": None, "live": None})

    def test_arguments_by_name(self):
        self.assertEqual(Desk().say(command=f"book {GOOD_TEXT}"), "7")

    def test_a_desk_is_not_iterable(self):
        with self.assertRaises(TypeError):
            iter(Desk())

    def test_two_desks(self):
        one, other = self.ready("do yes 0 0"), self.ready()
        self.assertEqual(other.say("do count"), "0=0 1=0 2=0")
        self.assertEqual(one.say("do count"), "0=1 1=0 2=0")


class Results(Desks):
    def test_book(self):
        desk = Desk()
        self.assert_said(desk, (f"book {GOOD_TEXT}", "7"))
        self.assertEqual((desk.kept_book, desk.live), (GOOD, None))
        self.assert_said(desk, (f"book {POOR_TEXT}", "6"), ("book marks a ; counted ; keeps", "0"))
        self.assertEqual(desk.kept_book, Book(["a"], [], [], []))

    def test_begin(self):
        for voters in range(1, 5):
            for options in range(1, 7):
                desk = Desk()
                desk.say(f"book {GOOD_TEXT}")
                self.assertEqual(desk.say(f"begin {voters} {options}"), "begun")
                self.assertIsInstance(desk.live, Live)
                self.assertEqual(vars(desk.live.played), vars(play(GOOD, voters, options, [])))
                self.assertIs(desk.live.book, desk.kept_book)

    def test_do(self):
        self.assert_said(
            self.ready(), ("do yes 0 1", "0=0 1=1 2=0"), ("do yes 1 1", "0=0 1=2 2=0"), ("do join 0 1", "2=0 3=2"),
            ("do part 3", "2=0 4=2 5=2"), ("do late no 1 3", "2=0 4=1 5=1"), ("do strike 2", "4=1 5=1"), ("do cut 0 4", "4=1 5=1"),
            ("do count", "4=1 5=1"), ("do strike 5", "4=1"), ("do strike 4", "-"), ("do count", "-"), ("do back 2", "2=0"))

    def test_a_poll_in_which_no_option_is_left(self):
        desk = self.ready(voters=1, options=1)
        self.assert_said(desk, ("do strike 0", "-"), ("undo", "undone"), ("do count", "0=0"), ("do strike 0", "-"))
        self.assert_wrong(desk, "mark 0 0")
        self.assert_said(desk, ("do back 0", "0=0"), ("mark 0 0", "none"))

    def test_totals_below_zero(self):
        desk = Desk()
        self.assert_said(
            desk, ("book marks a ; counted ; keeps ; no a to a by -3", "1"), ("begin 1 2", "begun"), ("do no 0 1", "0=0 1=-3"),
            ("do no 0 1", "0=0 1=-6"), ("do count", "0=0 1=0"))

    def test_mark(self):
        desk = self.ready("do yes 1 2")
        self.assert_said(desk, ("mark 0 2", "none"), ("mark 1 2", "in"), ("mark 1 0", "none"), ("do join 0 2", "1=0 3=1"))
        self.assert_said(desk, ("mark 1 3", "in"), ("mark 0 3", "none"), ("mark 1 1", "none"))

    def test_faults_and_depth(self):
        rows = ("yes a to b by 0", "join b a to c by 0", "part any to b a by 0 0", "strike a to c by 1")
        for book in (GOOD, POOR, book_of(), book_of(*rows), book_of("yes a to b by 2", "no a to b by 1")):
            desk = Desk()
            desk.say("book " + str(book).replace("\n", " ; "))
            self.assertEqual(desk.say("faults"), " ".join(faults(book)) or "never")
            for fault in FAULTS:
                least = depth(book, fault)
                self.assertEqual(desk.say(f"depth {fault}"), "never" if least is None else str(least))
        self.assert_said(self.ready(), ("faults", "never"), ("depth apart", "never"))
        self.assert_said(
            self.ready(f"book {POOR_TEXT}"), ("faults", "apart missed side"), ("depth missed", "2"), ("depth side", "1"),
            ("depth stuck", "never"))

    def test_undo(self):
        desk = self.ready()
        self.assert_said(
            desk, ("undo", "nothing"), ("do yes 0 0", "0=1 1=0 2=0"), ("do yes 1 0", "0=2 1=0 2=0"), ("undo", "undone"),
            ("do count", "0=1 1=0 2=0"), ("undo", "undone"), ("undo", "undone"), ("undo", "nothing"), ("do count", "0=0 1=0 2=0"))

    def test_undo_behind_another_book(self):
        desk = self.ready("do yes 0 0", "do join 0 1", f"book {POOR_TEXT}")
        self.assertEqual((desk.live.book, desk.kept_book), (POOR, POOR))
        self.assert_said(desk, ("undo", "undone"))
        # What is decided is decided about the book that the desk keeps.
        self.assertEqual((desk.live.book, desk.kept_book), (GOOD, POOR))
        self.assert_said(desk, ("faults", "apart missed side"), ("mark 0 3", "in"), ("undo", "undone"), ("do count", "0=1 1=0 2=0"))
        self.assert_said(desk, ("begin 1 1", "begun"))
        self.assertEqual(desk.live.book, POOR)

    def test_a_second_book_while_there_is_a_live_poll(self):
        desk = self.ready("do yes 0 1", "do join 0 1")
        self.assert_said(desk, ("mark 0 3", "in"), (f"book {POOR_TEXT}", "6"), ("mark 0 3", "none"), ("do count", "2=0 3=0"))
        self.assertEqual(len(desk.live), 4)
        self.assert_said(desk, ("undo", "undone"), ("do word 3", "2=0 3=1"), (f"book {POOR_TEXT}", "6"), ("undo", "undone"))
        self.assertEqual(desk.live.events, ("yes 0 1", "join 0 1", "word 3"))

    def test_a_second_begin(self):
        desk = self.ready("do yes 0 0", "do strike 1")
        first = desk.live
        self.assert_said(desk, ("begin 3 2", "begun"), ("undo", "nothing"), ("do yes 2 1", "0=0 1=1"))
        self.assertIsNot(desk.live, first)
        self.assertEqual((first.events, len(first)), (("yes 0 0", "strike 1"), 2))
        self.assert_said(desk, ("begin 3 2", "begun"), ("mark 2 1", "none"))

    def test_the_live_poll_itself_can_be_led(self):
        desk = self.ready()
        desk.live.do("yes 0 0")
        self.assert_said(desk, ("mark 0 0", "in"), ("undo", "undone"), ("mark 0 0", "none"))
        with desk.live.trial():
            self.assert_said(desk, ("do yes 1 1", "0=0 1=1 2=0"))
        self.assert_said(desk, ("undo", "nothing"), ("mark 1 1", "none"))

    def test_results_are_texts(self):
        desk = Desk()
        for command in COMMANDS:
            self.assertIs(type(desk.say(command)), str)


class Wrong(Desks):
    def test_any_values(self):
        for desk in (Desk(), self.ready("do yes 0 0")):
            for value in (*ANY_VALUES, None, b"undo", ["undo"], ("faults",), desk):
                if value not in COMMANDS:
                    self.assert_wrong(desk, value)

    def test_without_a_book(self):
        desk = Desk()
        for command in COMMANDS[1:]:
            self.assert_wrong(desk, command)
        # A book that is none is kept by no desk.
        self.assert_wrong(desk, "book marks", InvalidText)
        for command in COMMANDS[1:]:
            self.assert_wrong(desk, command)
        for command in COMMANDS:
            desk.say(command)

    def test_without_a_live_poll(self):
        desk = Desk()
        desk.say(f"book {POOR_TEXT}")
        for command in ("do yes 0 1", "mark 0 1", "undo", "do nothing"):
            self.assert_wrong(desk, command)
        self.assert_said(desk, ("faults", "apart missed side"), ("depth side", "1"))
        self.assert_wrong(desk, "begin 0 1")
        self.assert_wrong(desk, "undo")

    def test_newlines_and_spaces(self):
        desk = self.ready("do yes 0 0")
        for command in COMMANDS:
            for other in (
                f" {command}", f"{command} ", f"\n{command}", f"{command}\n", command.replace(" ", "  ", 1) + " ",
                command.replace(" ", "\n"), f"{command} \n", f"\t{command}", f"\xa0{command}", f"{command}\n; strike 0",
            ):
                if other != command:
                    self.assert_wrong(desk, other)
            if " " in command:
                self.assert_wrong(desk, command.replace(" ", "  ", 1))
                self.assert_wrong(desk, command.replace(" ", "\t", 1))
                self.assert_wrong(desk, command.replace(" ", "\xa0"))
        for command in ("", " ", "  ", "\n", "undo\r", "faults\t", "mark 0 0\r", "depth side\x0b"):
            self.assert_wrong(desk, command)

    def test_newlines_in_a_text(self):
        desk = self.ready()
        for text in ("\n".join(LINES), f"{LINES[0]}\n{LINES[1]} ; {LINES[2]}", GOOD_TEXT.replace(" ; ", " \n ")):
            self.assert_wrong(desk, f"book {text}")

    def test_too_many_words_or_too_few(self):
        desk = self.ready("do yes 0 0")
        for command in (
            "book", "begin", "begin 1", "begin 1 1 1", "do", "mark", "mark 0", "mark 0 0 0", "faults side", "faults never", "depth",
            "depth side side", "depth apart missed", "undo 1", "undo undo", "undo all",
        ):
            self.assert_wrong(desk, command)

    def test_words_of_other_commands(self):
        desk = self.ready("do yes 0 0")
        for command in (
            "begun", "undone", "nothing", "never", "redo", "yes 0 0", "count", "strike 0", "Undo", "FAULTS", "marks none in", "say undo",
            "fault side", "faults 0 0", "undo yes 0 0", "depth 0 0", "depth faults", "begin side", "mark side 0",
            "events", "live", "trial", "any", ";", "help",
        ):
            self.assert_wrong(desk, command)

    def test_numbers(self):
        desk = self.ready("do yes 0 0")
        for number in (
            "00", "01", "-1", "+1", "1.0", "a", "x", "10000", "00000", "0x1", "1_0", "\u0661", "\xb2", "\uff11", "1,", "one", "one 0", "True", "",
        ):
            for command in (f"begin {number} 1", f"begin 1 {number}", f"mark {number} 0", f"mark 0 {number}"):
                self.assert_wrong(desk, command)

    def test_numbers_out_of_range(self):
        desk = self.ready("do yes 0 0")
        for command in ("begin 0 1", "begin 1 0", "begin 0 0", "begin 5 1", "begin 1 7", "begin 4 10", "begin 9999 9999", "begin 10 1"):
            self.assert_wrong(desk, command)
        for command in ("mark 2 0", "mark 0 3", "mark 9999 0", "mark 0 9999", "mark 2 3"):
            self.assert_wrong(desk, command)

    def test_a_mark_at_an_option_that_is_not_in_the_poll(self):
        desk = self.ready("do join 0 1", "do strike 2", "do part 3")
        for option in (0, 1, 2, 3, 6):
            self.assert_wrong(desk, f"mark 0 {option}")
        self.assert_said(desk, ("mark 0 4", "none"), ("mark 1 5", "none"), ("do back 2", "2=0 4=0 5=0"), ("mark 0 2", "none"))

    def test_a_fault_that_is_none(self):
        desk = self.ready()
        for word in ("sides", "Side", "sid", "any", "join", "0", "never", "side,", "''", "again;"):
            self.assert_wrong(desk, f"depth {word}")

    def test_a_text_of_a_book_that_is_none(self):
        desk = self.ready("do yes 0 0")
        for text, at in (
            ("x", 0), ("marks", 0), ("marks a", 1), ("marks a ; counted", 2), ("marks a ; counted ; keep", 2), ("counted ; marks a", 0),
            ("marks a ; counted ; keeps ; yes a to a", 3), ("marks a ; counted ; keeps ; yes a to a by 0 ;", 3),
            ("marks a ; ; counted ; keeps", 1), ("marks a; counted ; keeps", 0), ("marks a ;counted ; keeps", 0), (";", 0), ("; ;", 0),
            ("marks a ; counted ; keeps ; yes a to a by 0 ; no a to a by 4", 4), ("marks a ; counted ; keeps ; ; yes a to a by 0", 3),
            ("marks any ; counted ; keeps", 0), ("marks a\tb ; counted ; keeps", 0), ("marks a ; counted ; keeps\r", 2),
        ):
            self.assertEqual(self.assert_wrong(desk, f"book {text}", InvalidText).at, at, text)
        for text, word in (
            ("marks a a ; counted ; keeps", "marks"), ("marks a b ; counted a ; keeps", "counted"),
            ("marks a b ; counted b b ; keeps", "counted"), ("marks a ; counted ; keeps cut cut", "keeps"),
            ("marks a ; counted ; keeps ; yes a to b by 0", "mark"),
        ):
            self.assertEqual(self.assert_wrong(desk, f"book {text}", InvalidBook).word, word, text)
        self.assertEqual(self.assert_wrong(Desk(), "book marks a ; counted b ; keeps", InvalidBook).word, "counted")

    def test_events_that_are_none(self):
        desk = self.ready("do yes 0 0", "do join 0 1")
        for event in (
            "yes 0 0", "yes 2 3", "word 9", "join 2 2", "back 2", "yes", "yes 0", "yes 00 2", "nothing", "do count", "count 0", "undo",
            "late yes 0 2", "yes\t0 2", "yes 0 2\r", "10", ";",
        ):
            self.assertEqual(self.assert_wrong(desk, f"do {event}", InvalidEvent).at, 2)
        self.assertEqual(self.assert_wrong(self.ready(), "do yes 0 9", InvalidEvent).at, 0)

    def test_no_command_is_told_ahead_of_other_errors(self):
        desk = Desk()
        for command in ("book", "book ", "book  marks", "book marks\n", "do yes 9 9", "do x"):
            self.assert_wrong(desk, command)


class Compared(Desks):
    def test_polls_by_chance(self):
        dice = random.Random(21)
        for seed in range(40):
            book = oracle.random_book(seed)
            desk = Desk()
            self.assertEqual(desk.say("book " + str(book).replace("\n", " ; ")), str(len(book)))
            desk.say("begin 3 4")
            events = oracle.random_events(dice, book, 3, 4, 20)
            for many, event in enumerate(events):
                wanted = oracle.play(book, 3, 4, events[:many + 1])
                totals = [f"{option}={wanted['totals'][option]}" for option in wanted["poll"]]
                self.assertEqual(desk.say(f"do {event}"), " ".join(totals) or "-")
                for option in wanted["poll"]:
                    voter = dice.randrange(3)
                    self.assertEqual(desk.say(f"mark {voter} {option}"), wanted["marks"][option][voter])
            for _ in events:
                self.assertEqual(desk.say("undo"), "undone")
            self.assertEqual(desk.say("undo"), "nothing")


class Examples(Desks):
    def test_the_example_of_the_document(self):
        self.assert_said(
            Desk(), (f"book {GOOD_TEXT}", "7"), ("begin 2 2", "begun"), ("do yes 0 1", "0=0 1=1"), ("do join 0 1", "2=1"),
            ("mark 0 2", "in"), ("faults", "never"))


if __name__ == "__main__":
    unittest.main()
