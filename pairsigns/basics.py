"""What the other files ask of any value: whether it is a number, a list, a name and so on."""

LETTERS = "abcdefghijklmnopqrstuvwxyz"
RESERVED = ("coming", "down", "up", "none", "key", "never", "orders")
MOST_NAME = 8
MOST_TEXT = 12


def is_integer(value):
    """Whether this is an int that is not a bool."""
    return isinstance(value, int) and not isinstance(value, bool)


def is_count(value):
    """Whether this is an integer that is at least 0."""
    return is_integer(value) and value >= 0


def is_sign(value):
    """Whether this is -1, 0 or 1."""
    return is_integer(value) and -1 <= value <= 1


def is_listing(value):
    """Whether this can be passed where a list is asked for."""
    return isinstance(value, (list, tuple))


def is_letters(value):
    """Whether this is a string of letters from a to z, perhaps empty."""
    return isinstance(value, str) and all([letter in LETTERS for letter in value])


def is_name(value):
    """Whether this is a NAME of the document."""
    return is_letters(value) and 1 <= len(value) <= MOST_NAME and value not in RESERVED


def is_value(value):
    """Whether this is a VALUE of the document: a number or a text."""
    return is_integer(value) or (is_letters(value) and len(value) <= MOST_TEXT)


def kind_of_value(value):
    """The kind of a value: `number` or `text`."""
    return "text" if isinstance(value, str) else "number"


def has_kind(value, kind):
    """Whether this is a value of the kind."""
    return is_value(value) and kind_of_value(value) == kind


def sign_between(one, other):
    """The sign of two values of one kind, or of two ranks."""
    if one < other:
        return -1
    return 1 if one > other else 0


def tuples_over(choices, length):
    """All tuples of so many of the choices, in sorted sequence if the choices are sorted."""
    found = [()]
    for _ in range(length):
        found = [(*before, choice) for before in found for choice in choices]
    return found


def copied(value):
    """A value in which all lists and dicts are new."""
    if isinstance(value, list):
        return [copied(part) for part in value]
    if isinstance(value, tuple):
        return tuple([copied(part) for part in value])
    if isinstance(value, dict):
        return {key: copied(part) for key, part in value.items()}
    return value
