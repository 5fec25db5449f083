"""Promises 1 to 3 and the interface, over the whole program."""

import importlib
import inspect
import random
import unittest

from forkpolls.asking import least_asks, needless, repairs
from forkpolls.backward import harmless, voted
from forkpolls.books import Book
from forkpolls.comparing import alike, parting, twins
from forkpolls.deciding import comes, depth, faults, happens, standings, story
from forkpolls.desk import Desk
from forkpolls.errors import (
    InvalidBook, InvalidCommand, InvalidEvent, InvalidFault, InvalidRow, InvalidText, NoMark, NoRow, PollError, Refused)
from forkpolls.live import Live
from forkpolls.papers import paper, paper_holds
from forkpolls.polls import depths, play
from forkpolls.rows import Join, Part, Row, Step
from tests import oracle
from tests.books import EDITS, FAULTS, GOOD, LINES, POOR, book_of
from tests.values import ANY_VALUES

# By modules: functions and classes with their parameters, and by classes their attributes and methods.
FUNCTIONS = {
    "polls": {"play": "book voters options events", "depths": "voters options events"},
    "deciding": {
        "standings": "book", "happens": "book fault", "faults": "book", "depth": "book fault", "story": "book fault", "comes": "book at"},
    "papers": {"paper": "book fault", "paper_holds": "book fault value"},
    "asking": {"least_asks": "book wanted", "needless": "book wanted", "repairs": "book wanted"},
    "comparing": {"alike": "p q", "parting": "p q", "twins": "book"},
    "backward": {"voted": "book options edits told", "harmless": "book options edits"},
}

CLASSES = {
    "errors": {
        "PollError": None, "InvalidRow": "word", "InvalidBook": "word", "InvalidText": "at", "InvalidEvent": "at", "InvalidFault": "",
        "InvalidCommand": "", "Refused": "at", "NoRow": "at", "NoMark": "name"},
    "rows": {"Row": None, "Step": "kind old then add", "Join": "here there then add", "Part": "old left right add more"},
    "books": {"Book": "marks counted keeps rows"},
    "polls": {"Played": None},
    "live": {"Live": "book voters options"},
    "desk": {"Desk": ""},
}

METHODS = {
    ("rows", "Row"): {"read": "text", "__eq__": "other", "__str__": ""},
    ("books", "Book"): {
        "step": "kind mark", "joined": "here there", "parted": "mark", "without": "at", "asking": "kinds", "read": "text",
        "__len__": "", "__getitem__": "at", "__eq__": "other", "__str__": ""},
    ("live", "Live"): {
        "do": "event", "several": "events", "change": "book", "undo": "", "trial": "", "within": "work", "__len__": ""},
    ("desk", "Desk"): {"say": "command"},
}

EVENTS = ("yes 0 0", "yes 1 1", "join 0 1", "part 3", "late no 1 3", "cut 0 4", "strike 2", "back 2", "count")

EDITED = ("join 0 1", "part 3", "strike 2", "back 2", "word 4")


def outcome(call):
    """Return what a call returns, or its error."""
    try:
        return call()
    except (PollError, IndexError, KeyError) as error:
        return type(error), vars(error)


def calls():
    """Return many calls of all parts of the program, right and wrong ones."""
    found = []
    for book in (GOOD, POOR, book_of("yes a to b by 1", "join b any to c by 0", "part c to b a by 0 1", keeps="join")):
        found += [lambda book=book, kinds=kinds: str(book.asking(kinds)) for kinds in ([], ["join"], ("word", "part", "word"))]
        found += [lambda book=book, at=at: str(book.without(at)) for at in (0, 1, 99, -1)]
        found += [lambda book=book, mark=mark: book.step("yes", mark) for mark in (*book.marks, None, [], "zz")]
        found += [lambda book=book, mark=mark: book.joined(book.blank, mark) for mark in (*book.marks, None, [], "zz")]
        found += [lambda book=book, mark=mark: book.parted(mark) for mark in (*book.marks, GOOD)]
        found += [lambda book=book, ask=ask: ask(book) for ask in (standings, faults, twins)]
        found += [
            lambda book=book, ask=ask, fault=fault: ask(book, fault)
            for ask in (happens, depth, story, paper) for fault in (*FAULTS, "none", None, ["side"])]
        found += [lambda book=book, at=at: comes(book, at) for at in (0, 1, 2, 55, -2)]
        found += [
            lambda book=book, ask=ask, wanted=wanted: ask(book, wanted)
            for ask in (least_asks, needless, repairs) for wanted in ([], ["side"], ("false", "apart"), ["none"])]
        found += [lambda book=book, ask=ask, other=other: ask(book, other) for ask in (alike, parting) for other in (GOOD, POOR)]
        found += [
            lambda book=book, events=events: vars(play(book, 2, 3, events))
            for events in ([], EVENTS, list(EVENTS[:4]), ["word 9"], None, "word 0")]
        found += [lambda book=book, edits=edits: voted(book, 3, edits, [0, 4]) for edits in ([], EDITED, EVENTS, 7)]
        found += [lambda book=book, edits=edits: harmless(book, 3, edits) for edits in ([], EDITED, list(EDITED[:2]), ["count"])]
        found += [lambda book=book, value=value: paper_holds(book, "side", value) for value in ((), [], paper(GOOD, "side"), None)]
    found += [lambda events=events: depths(2, 3, events) for events in ([], EVENTS, ["yes 0 0"])]
    return found


class Interface(unittest.TestCase):
    def parameters(self, thing):
        return " ".join(word for word in inspect.signature(thing).parameters if word not in ("self", "cls"))

    def test_functions(self):
        for module, functions in FUNCTIONS.items():
            held = importlib.import_module(f"forkpolls.{module}")
            for name, words in functions.items():
                thing = getattr(held, name)
                self.assertTrue(inspect.isfunction(thing), name)
                self.assertEqual((thing.__module__, self.parameters(thing)), (f"forkpolls.{module}", words))

    def test_classes(self):
        for module, classes in CLASSES.items():
            held = importlib.import_module(f"forkpolls.{module}")
            for name, words in classes.items():
                thing = getattr(held, name)
                self.assertTrue(inspect.isclass(thing), name)
                self.assertEqual(thing.__module__, f"forkpolls.{module}")
                if words:
                    self.assertEqual(self.parameters(thing), words, name)

    def test_methods_are_defined_in_the_class_itself(self):
        for (module, name), methods in METHODS.items():
            held = vars(getattr(importlib.import_module(f"forkpolls.{module}"), name))
            for method, words in methods.items():
                self.assertIn(method, held)
                thing = held[method].__func__ if isinstance(held[method], classmethod) else held[method]
                self.assertEqual(self.parameters(thing), words, (name, method))
        for name in ("book", "events", "played"):
            self.assertIsInstance(vars(Live)[name], property)
        self.assertIsInstance(vars(Row)["read"], classmethod)
        self.assertIsInstance(vars(Book)["read"], classmethod)

    def test_attributes_are_set_on_each_object(self):
        for thing, words in (
            (Step("yes", "any", "same", 0), "kind old then add"), (Join("a", "a", "one", 1), "here there then add"),
            (Part("a", "a", "a", 0, 0), "old left right add more"), (GOOD, "marks counted keeps rows blank"),
            (play(GOOD, 1, 1, []), "poll marks known totals counts now met"), (Desk(), "kept_book live"), (Row.read("part a to a a by 0 0"), "old"),
        ):
            for word in words.split():
                self.assertIn(word, vars(thing))

    def test_the_package_itself_is_empty(self):
        package = importlib.import_module("forkpolls")
        with open(package.__file__, encoding="utf-8") as file:
            self.assertRegex(file.read(), r'\A"""[^"]*"""\n\Z')


class Objects(unittest.TestCase):
    def all_objects(self):
        live = Live(GOOD, 2, 3)
        return [
            Step("yes", "any", "same", 0), Join("a", "a", "one", 1), Part("a", "a", "a", 0, 0), GOOD, play(GOOD, 1, 1, []), live,
            live.trial(), live.played, Desk(), PollError(), InvalidRow("add"), InvalidBook("marks"), InvalidText(0), InvalidEvent(0),
            InvalidFault(), InvalidCommand(), Refused(0), NoRow(0), NoMark("a")]

    def test_objects_are_not_iterable(self):
        for thing in self.all_objects():
            for take in (iter, list, tuple, sorted, enumerate, lambda one: [*one], lambda one: "a" in one):
                with self.assertRaises(TypeError):
                    take(thing)

    def test_nothing_of_another_class_is_equal(self):
        things = self.all_objects()
        for one in things[:4]:
            for other in (*things, str(one), str(one).split(), None, 0, ("yes",), []):
                self.assertIs(one == other, one is other)
                self.assertIs(other == one, one is other)
                self.assertIs(one != other, one is not other)
        self.assertEqual(Row.read(str(things[0])), things[0])
        self.assertEqual(Book.read(str(GOOD)), GOOD)
        self.assertNotEqual(Book(["a"], [], [], []), Book(["b"], [], [], []))

    def test_objects_never_change(self):
        rows = list(GOOD.rows)
        before = [{**vars(one)} for one in (GOOD, POOR, *rows)]
        for call in calls():
            outcome(call)
        live = Live(GOOD, 2, 3)
        live.several(EVENTS)
        live.book = POOR
        desk = Desk()
        desk.say("book " + " ; ".join(LINES))
        desk.say("begin 1 1")
        self.assertEqual([{**vars(one)} for one in (GOOD, POOR, *rows)], before)

    def test_attributes_that_are_sequences_are_tuples(self):
        live = Live(GOOD, 2, 3)
        live.several(list(EVENTS))
        things = [(GOOD, vars(GOOD)), (GOOD[0], vars(GOOD[0])), (live.played, vars(live.played))]
        for thing, attributes in things:
            for name, value in attributes.items():
                self.assertNotIsInstance(value, (list, set), (thing, name))
        for value in (live.events, live.several([]), live.do("count"), live.several(["count"])[0]):
            self.assertIsInstance(value, tuple)

    def test_functions_without_a_result(self):
        live = Live(GOOD, 1, 1)
        self.assertIsNone(live.change(POOR))
        with live.trial() as held:
            self.assertIs(held, live)


class Calls(unittest.TestCase):
    def test_the_same_call_returns_an_equal_result(self):
        all_calls = calls()
        first = [outcome(call) for call in all_calls]
        for seed in range(3):
            order = list(range(len(all_calls)))
            random.Random(seed).shuffle(order)
            for at in order:
                self.assertEqual(outcome(all_calls[at]), first[at])

    def test_equal_books_are_told_the_same_of(self):
        for seed in range(20):
            book = oracle.random_book(seed, 3)
            twin = Book.read(str(book))
            for ask in (standings, faults, twins):
                self.assertEqual(ask(book), ask(twin))
            for fault in FAULTS:
                self.assertEqual((story(book, fault), paper(book, fault)), (story(twin, fault), paper(twin, fault)))
            self.assertEqual(least_asks(book, ["side", "apart"]), least_asks(twin, ["side", "apart"]))
            self.assertTrue(alike(book, twin))

    def test_a_live_poll_that_does_not_change(self):
        live = Live(POOR, 2, 3)
        live.several(EVENTS)
        first = vars(live.played), live.events, live.book, len(live)
        for call in calls():
            outcome(call)
        Live(POOR, 2, 3).do("word 0")
        self.assertEqual((vars(live.played), live.events, live.book, len(live)), first)

    def test_arguments_do_not_change(self):
        marks, counted, keeps, rows = ["b", "a", "c"], ["c", "a"], ["word", "cut"], [Step("yes", "any", "a", 1), Part("a", "c", "a", 0, 1)]
        events, edits, told, wanted, kinds = list(EVENTS), list(EDITED), [4, 4, 0], ["side", "apart", "side"], ["word", "word"]
        given = (marks, counted, keeps, rows, events, edits, told, wanted, kinds)
        before = [list(one) for one in given]
        book = Book(marks, counted, keeps, rows)
        live = Live(book, 2, 3)

        def all_told():
            asked = [ask(book, wanted) for ask in (least_asks, needless, repairs)]
            looked = voted(book, 3, edits, told), harmless(book, 3, edits), str(book.asking(kinds)), depths(2, 3, events)
            return asked, looked, vars(play(book, 2, 3, events)), str(book), live.several(events), live.undo()
        first = all_told()
        self.assertEqual([list(one) for one in given], before)
        live.several(events)
        for one in given[:4]:
            one.clear()
        self.assertEqual(live.events, EVENTS)
        live.undo()
        self.assertEqual(all_told(), first)

    def test_lists_and_tuples(self):
        for make in (list, tuple):
            book = Book(make(GOOD.marks), make(GOOD.counted), make(GOOD.keeps), make(GOOD.rows))
            self.assertEqual(book, GOOD)
            self.assertEqual(vars(play(book, 2, 3, make(EVENTS))), vars(play(GOOD, 2, 3, EVENTS)))
            self.assertEqual(voted(book, 3, make(EDITED), make([4])), voted(GOOD, 3, EDITED, (4,)))
            self.assertEqual(book.asking(make(EDITS)), GOOD.asking(EDITS))
            self.assertEqual(least_asks(POOR, make(["side"])), (("join",),))

    def test_any_values(self):
        for value in ANY_VALUES:
            for error, call in (
                (InvalidFault, lambda: happens(GOOD, value)), (InvalidFault, lambda: depth(GOOD, value)),
                (InvalidFault, lambda: story(GOOD, value)), (InvalidFault, lambda: paper(GOOD, value)),
                (InvalidFault, lambda: paper_holds(GOOD, value, value)), (InvalidFault, lambda: least_asks(GOOD, [value])),
                (InvalidEvent, lambda: play(GOOD, 1, 1, [value])), (InvalidEvent, lambda: voted(GOOD, 1, [value], [])),
                (InvalidEvent, lambda: harmless(GOOD, 1, [value])), (InvalidEvent, lambda: Live(GOOD, 1, 1).do(value)),
                (Refused, lambda: Live(GOOD, 1, 1).several([value])), (InvalidCommand, lambda: Desk().say(value)),
                (InvalidBook, lambda: Book(["a"], [], [], [None, value])), (InvalidRow, lambda: Step(value, value, value, "x")),
            ):
                with self.assertRaises(error) as caught:
                    call()
                self.assertIs(type(caught.exception), error)
            self.assertIs(paper_holds(GOOD, "side", value), False)
            if value not in GOOD.marks:
                for call in (lambda: GOOD.step("yes", value), lambda: GOOD.joined("in", value), lambda: GOOD.parted(value)):
                    with self.assertRaises(NoMark):
                        call()


class PassedOn(unittest.TestCase):
    """What the package returned may be passed on, whatever its size."""

    def test_stories(self):
        for seed in range(40):
            book = oracle.random_book(seed)
            for fault in faults(book):
                options, events = story(book, fault)
                live = Live(book, 1, options)
                live.several(events)
                self.assertEqual(live.events, events)
                self.assertEqual(vars(live.played), vars(play(book, 1, options, live.events)))
                met = [option for one, option in live.played.now if one == fault]
                deep = depths(1, options, live.events)[0]
                self.assertIn(depth(book, fault), [deep[option] for option in met])

    def test_papers(self):
        for seed in range(60):
            book = oracle.random_book(seed)
            for fault in FAULTS:
                told = paper(book, fault)
                self.assertTrue(told is None or paper_holds(book, fault, told))

    def test_books_and_their_parts(self):
        for seed in range(20):
            book = oracle.random_book(seed)
            self.assertEqual(Book(book.marks, book.counted, book.keeps, book.rows), book)
            asked = book.asking(EDITS)
            self.assertEqual(faults(Book.read(str(asked))), faults(asked))
            for kinds in least_asks(book, ["apart"]):
                self.assertFalse(happens(book.asking(kinds), "apart"))

    def test_what_is_played(self):
        played = play(GOOD, 1, 3, EDITED)
        self.assertEqual(voted(GOOD, 3, EDITED, played.poll), ((0, 1, 2), (0, 2), (1, 2)))
        options, events = parting(GOOD, POOR)
        self.assertNotEqual(play(GOOD, 1, options, events).marks, play(POOR, 1, options, events).marks)


if __name__ == "__main__":
    unittest.main()
