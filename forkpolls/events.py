"""Events: what they say, whether they are possible, and the options that they come to."""

from forkpolls.checks import all_differ, is_number_word, is_place, is_sequence, split_words
from forkpolls.errors import InvalidEvent

DEEDS = ("yes", "no", "late yes", "late no")

LATE_DEEDS = ("late yes", "late no")

EDITS_OF_OPTIONS = ("word", "strike", "back", "join", "part")

# How many new options these edits make.
MAKES = {"join": 1, "part": 2}

# How many numbers stand behind each kind of event.
FORMS = {
    "yes": 2, "no": 2, "late yes": 2, "late no": 2, "cut": 2, "word": 1, "strike": 1, "back": 1, "join": 2, "part": 1,
    "count": 0,
}


class Course:
    """Which options a poll has, and what edits they went through.

    No book tells of this, so it is kept apart from marks and totals.
    """

    def __init__(self, voters, options):
        self.voters = voters
        # The kind of each option's last edit, and the options into which it ended.
        self.edits = [""] * options
        self.heirs = [()] * options

    def move(self, event):
        """Do an event and return its move; None if it is no event, or not possible.

        A move is a triple (kind, voter, ways): the voter is None for what concerns
        all voters, and a way is a pair of the options from which an option comes,
        and this option itself.
        """
        kind, numbers = _parsed(event)
        if kind == "":
            return None
        if kind == "count":
            return "count", None, ()
        if kind in DEEDS or kind == "cut":
            return self._voter_move(kind, numbers[0], numbers[1])
        return self._edit(kind, numbers)

    def copied(self):
        """Return another course that goes on from here."""
        twin = Course(self.voters, 0)
        twin.edits = list(self.edits)
        twin.heirs = list(self.heirs)
        return twin

    def is_in(self, option):
        """Return whether the option is in the poll."""
        return is_place(option, self.edits) and self.heirs[option] == () and self.edits[option] != "strike"

    def _voter_move(self, kind, voter, option):
        """Return the move of a deed or a cut, or None."""
        reached = self._reached(kind, option)
        if voter >= self.voters or reached == []:
            return None
        return kind, voter, tuple([((one,), one) for one in reached])

    def _reached(self, kind, option):
        """Return the options to which a deed or a cut comes."""
        if not is_place(option, self.edits):
            return []
        if kind in LATE_DEEDS and self.edits[option] != "word":
            # An heir whose last edit is not this one any more was edited since.
            last = self.edits[option]
            return [heir for heir in self.heirs[option] if self.is_in(heir) and self.edits[heir] == last]
        return [option] if self.is_in(option) else []

    def _edit(self, kind, numbers):
        """Do an edit and return its move, or None."""
        if not all([self._can_edit(kind, option) for option in numbers]) or not all_differ(numbers):
            return None
        behind = self._behind(kind, numbers)
        for option in [*numbers, *behind]:
            self.edits[option] = kind
        return kind, None, tuple([(numbers, option) for option in behind])

    def _can_edit(self, kind, option):
        """Return whether this kind of edit of the option is possible."""
        if kind == "back":
            return is_place(option, self.edits) and self.edits[option] == "strike"
        return self.is_in(option)

    def _behind(self, kind, numbers):
        """Return the options behind an edit, new ones if the edit makes some."""
        if kind not in MAKES:
            return numbers
        made = tuple([len(self.edits) + at for at in range(MAKES[kind])])
        for option in numbers:
            self.heirs[option] = made
        self.edits.extend([kind for _ in made])
        self.heirs.extend([() for _ in made])
        return made


def moves_of(course, events, kinds):
    """Return the moves of events of these kinds; InvalidEvent for the first thing that is none, or not possible."""
    if not is_sequence(events):
        raise InvalidEvent(0)
    moves = []
    for at, event in enumerate(events):
        move = course.move(event)
        if move is None or move[0] not in kinds:
            raise InvalidEvent(at)
        moves.append(move)
    return moves


def _parsed(event):
    """Return the kind of an event and its numbers; the kind "" for no event."""
    if not isinstance(event, str):
        return "", ()
    words = split_words(event)
    kind = words[0]
    if FORMS.get(kind) != len(words) - 1 or not all([is_number_word(word) for word in words[1:]]):
        return "", ()
    return kind, tuple([int(word) for word in words[1:]])
