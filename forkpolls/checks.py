"""What names, integers, numbers, sequences and faults are, for any value."""

KEYWORDS = ("any", "by", "one", "same", "to")

FAULTS = ("again", "apart", "false", "missed", "side", "stuck")


def is_integer(value):
    """Return whether the value is an integer; a bool is none."""
    return isinstance(value, int) and not isinstance(value, bool)


def is_name(value):
    """Return whether the value is a name."""
    if not isinstance(value, str) or value in KEYWORDS:
        return False
    return 1 <= len(value) <= 4 and all(["a" <= letter <= "z" for letter in value])


def is_sequence(value):
    """Return whether the value is a list or a tuple."""
    return isinstance(value, (list, tuple))


def is_place(at, things):
    """Return whether one of the things has this number."""
    return is_integer(at) and 0 <= at < len(things)


def is_number_word(word):
    """Return whether the string writes a number as events write it."""
    if not 1 <= len(word) <= 4 or not all(["0" <= letter <= "9" for letter in word]):
        return False
    return word == "0" or word[0] != "0"


def all_differ(things):
    """Return whether no string or integer stands twice in the sequence."""
    return len(set(things)) == len(things)


def split_words(text):
    """Return the words between single spaces, a late kind as one word."""
    words = text.split(" ")
    if words[0] == "late":
        return [" ".join(words[:2]), *words[2:]]
    return words
