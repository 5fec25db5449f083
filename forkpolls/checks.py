"""What a name, an integer and a sequence is, for any value."""

KEYWORDS = ("any", "by", "one", "same", "to")


def is_integer(value):
    """Return whether the value is an integer; a bool is none."""
    return isinstance(value, int) and not isinstance(value, bool)


def is_name(value):
    """Return whether the value is a name."""
    if not isinstance(value, str) or value in KEYWORDS:
        return False
    return 1 <= len(value) <= 4 and all(["a" <= letter <= "z" for letter in value])


def is_sequence(value):
    """Return whether the value is a list or a tuple."""
    return isinstance(value, (list, tuple))


def all_differ(words):
    """Return whether no string stands twice in the sequence."""
    return len(set(words)) == len(words)
