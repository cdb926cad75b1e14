"""Signs of two values, vectors of signs, and orders."""

from pairsigns.basics import is_count, is_letters, is_listing, is_sign, is_value, kind_of_value, sign_between
from pairsigns.errors import InvalidCount, InvalidOrder, InvalidText, InvalidValue, InvalidVector, Unlike

SIGN_TEXTS = "-0+"
NO_ENTRIES = "none"
DOWN = " down"
MOST_COLUMN = 17


def sign_of(one, other):
    """The sign of two values of one kind."""
    for value in (one, other):
        if not is_value(value):
            raise InvalidValue(value)
    if kind_of_value(one) != kind_of_value(other):
        raise Unlike()
    return sign_between(one, other)


def is_vector(value):
    """Whether this is a tuple of signs."""
    return isinstance(value, tuple) and all([is_sign(sign) for sign in value])


def turned(vector):
    """The vector with each sign replaced by the opposite one."""
    if not is_vector(vector):
        raise InvalidVector(vector)
    return tuple([-sign for sign in vector])


def sign_text(sign):
    """The text of one sign."""
    return SIGN_TEXTS[sign + 1]


def vector_text(vector):
    """The texts of the signs, one behind another."""
    if not is_vector(vector):
        raise InvalidVector(vector)
    return "".join([sign_text(sign) for sign in vector])


def read_sign(text):
    """The sign with this text of one character; no sign at all for another character."""
    return SIGN_TEXTS.find(text) - 1


def read_vector(text):
    """The vector with this text."""
    if not isinstance(text, str):
        raise InvalidText(text)
    vector = tuple([read_sign(letter) for letter in text])
    if not is_vector(vector):
        raise InvalidText(text)
    return vector


def is_order_column(value):
    """Whether this can be the column of an entry of an order."""
    if not isinstance(value, str) or value == NO_ENTRIES or not 1 <= len(value) <= MOST_COLUMN:
        return False
    parts = value.split(".")
    return len(parts) <= 2 and all([part != "" and is_letters(part) for part in parts])


def is_entry(value):
    """Whether this is a tuple of a column and a direction."""
    if not isinstance(value, tuple) or len(value) != 2:
        return False
    return is_order_column(value[0]) and isinstance(value[1], str) and value[1] in ("up", "down")


def first_wrong_entry(entries):
    """The position of the first element that cannot stand in an order, or None."""
    earlier = {}
    for position, entry in enumerate(entries):
        if not is_entry(entry) or entry[0] in earlier:
            return position
        earlier[entry[0]] = True
    return None


def entries_in(order):
    """What has been passed as the entries of an order: those of an Order, or the value itself."""
    return order.entries if isinstance(order, Order) else order


def sign_by(entries, signs):
    """The sign by the entries of an order; columns without a sign count as alike."""
    for column, direction in entries:
        sign = signs.get(column, 0)
        if sign != 0:
            return -sign if direction == "down" else sign
    return 0


def entry_text(column, direction):
    """The text of one entry."""
    return column + DOWN if direction == "down" else column


def entries_text(entries):
    """The text of an order with these entries."""
    if len(entries) == 0:
        return NO_ENTRIES
    return ", ".join([entry_text(column, direction) for column, direction in entries])


def read_entry(text):
    """The entry that would have this text; whether it is an entry is not looked at."""
    return (text.removesuffix(DOWN), "down") if text.endswith(DOWN) else (text, "up")


def read_entries(text):
    """The entries that would have this text; whether they make an order is not looked at."""
    if text == NO_ENTRIES:
        return ()
    return tuple([read_entry(part) for part in text.split(", ")])


class Order:
    """A sequence of columns with directions, by which two rows have a sign."""

    def __init__(self, entries=()):
        listed = entries_in(entries)
        if not is_listing(listed):
            raise InvalidOrder(-1)
        wrong = first_wrong_entry(listed)
        if wrong is not None:
            raise InvalidOrder(wrong)
        self._entries = tuple([(column, direction) for column, direction in listed])

    @property
    def entries(self):
        """The tuple of the entries."""
        return self._entries

    @property
    def columns(self):
        """The tuple of the columns of the entries."""
        return tuple([column for column, _ in self._entries])

    def begin(self, count):
        """The order of the first entries, as many as count says."""
        if not is_count(count):
            raise InvalidCount(count)
        return Order(self._entries[:count])

    def then(self, other):
        """This order, followed by the other one."""
        mine = self.columns
        added = [entry for entry in Order(other).entries if entry[0] not in mine]
        return Order([*self._entries, *added])

    def backwards(self):
        """The order with all directions exchanged."""
        return Order([(column, "up" if direction == "down" else "down") for column, direction in self._entries])

    def sign(self, signs):
        """The sign by this order of two rows, of which signs gives the signs by columns."""
        return sign_by(self._entries, signs)

    @classmethod
    def from_text(cls, text):
        """The order with this text."""
        if not isinstance(text, str):
            raise InvalidText(text)
        entries = read_entries(text)
        if first_wrong_entry(entries) is not None:
            raise InvalidText(text)
        return cls(entries)

    def __len__(self):
        return len(self._entries)

    def __contains__(self, column):
        return isinstance(column, str) and column in self.columns

    def __eq__(self, other):
        return isinstance(other, Order) and self._entries == other._entries

    def __str__(self):
        return str(entries_text(self._entries))

    def __repr__(self):
        return f"Order({self._entries!r})"
