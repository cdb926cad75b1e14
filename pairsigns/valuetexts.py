"""The texts of numbers and texts, and reading them."""

from pairsigns.basics import is_value

DIGITS = "0123456789"
EMPTY = '""'


def value_text(value):
    """The text of a value."""
    return EMPTY if value == "" else str(value)


def is_number_text(text):
    """Whether a string is the text of a number: in decimal, without leading zeros."""
    digits = text.removeprefix("-")
    if digits == "" or not all([digit in DIGITS for digit in digits]):
        return False
    return text == "0" or digits[0] != "0"


def read_number(text):
    """The number that a string is the text of, or None."""
    return int(text) if is_number_text(text) else None


def read_value(text):
    """The value that a string is the text of, or None."""
    if text == EMPTY:
        return ""
    if text == "" or not is_value(text):
        return read_number(text)
    return text


def joined_values(values):
    """The texts of some values, separated by commas without spaces."""
    return ",".join([value_text(value) for value in values])
