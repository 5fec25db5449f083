"""Looking back: who can have voted how, and whether edits do harm to a vote."""

from forkpolls.events import EDITS_OF_OPTIONS, Course, moves_of


class Group:
    """Options that share a past, and how a voter can stand at all of them at once.

    A hand is a pair: the mark at an option, and whether the option came from a chosen
    one. A standing is a tuple of hands, one for each option of the group. By standings
    are kept the choices behind which the voter stands so, as far as they are asked for.
    """

    def __init__(self, options, choices):
        self.options = options
        self.choices = choices

    def beside(self, other):
        """Return one group of the options of both."""
        both = {}
        for here, ones in self.choices.items():
            for there, others in other.choices.items():
                standing = (*here, *there)
                both[standing] = [(*one, *more) for one in ones for more in others]
        return Group((*self.options, *other.options), both)

    def behind(self, book, kind, ways):
        """Return the group behind an edit of one or two of its options."""
        sources = ways[0][0]
        made = [option for _, option in ways]
        others = [option for option in self.options if option not in sources]
        edited = {}
        for standing, chosen in self.choices.items():
            hands = dict(zip(self.options, standing))
            behind = _hands_behind(book, kind, [hands[source] for source in sources])
            # Unlike choices can have led to what is alike from here on.
            edited.setdefault(tuple([*[hands[other] for other in others], *behind]), []).extend(chosen)
        return Group((*others, *made), edited)


def voted(book, options, edits, told):
    """Return the choices behind which the voter has counted marks just at the told options."""
    course = Course(1, options)
    firsts = [Group((option,), _first_choices(book, [()], [(option,)])) for option in range(options)]
    found = [()]
    for group in _groups_behind(book, course, firsts, edits):
        judged = [at for at, option in enumerate(group.options) if course.is_in(option)]
        wanted = [group.options[at] in told for at in judged]
        fitting = []
        for standing, chosen in group.choices.items():
            if [book.worth[standing[at][0]] == 1 for at in judged] == wanted:
                fitting.extend(chosen)
        found = [(*one, *more) for one in found for more in fitting]
    return tuple(sorted([tuple(sorted(choice)) for choice in found]))


def harmless(book, options, edits):
    """Return whether, for each choice, just those options count that came from a chosen one."""
    course = Course(1, options)
    # The choices themselves are not asked for: there are far fewer standings.
    firsts = [Group((option,), _first_choices(book, [], [])) for option in range(options)]
    for group in _groups_behind(book, course, firsts, edits):
        judged = [at for at, option in enumerate(group.options) if course.is_in(option)]
        for standing in group.choices:
            if not all([(book.worth[standing[at][0]] == 1) == standing[at][1] for at in judged]):
                return False
    return True


def _first_choices(book, without, chosen):
    """Return by standings the choices at one option that is there at first."""
    return {((book.blank, False),): without, ((book.steps["yes"][book.blank][0], True),): chosen}


def _groups_behind(book, course, groups, edits):
    """Return the groups behind the edits; InvalidEvent for the first one that is wrong."""
    for kind, _, ways in moves_of(course, edits, EDITS_OF_OPTIONS):
        touched = [group for group in groups if _has_one_of(group, ways[0][0])]
        others = [group for group in groups if not _has_one_of(group, ways[0][0])]
        joint = touched[0] if len(touched) == 1 else touched[0].beside(touched[1])
        groups = [*others, joint.behind(book, kind, ways)]
    return groups


def _has_one_of(group, options):
    """Return whether one of the options is in the group."""
    return any([option in group.options for option in options])


def _hands_behind(book, kind, hands):
    """Return the hands behind an edit of options with these hands."""
    mark, came = hands[0]
    if kind == "join":
        other, came_too = hands[1]
        return [(book.joins[(mark, other)][0], came or came_too)]
    if kind == "part":
        left, right, _, _ = book.parts[mark]
        return [(left, came), (right, came)]
    return [(book.steps[kind][mark][0], came)]
