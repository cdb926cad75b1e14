"""Pages of kept views: their tokens, and what comes behind one."""

from pairsigns.basics import has_kind, is_count, is_integer, sign_between
from pairsigns.errors import InvalidCount, InvalidToken
from pairsigns.rules import COMING
from pairsigns.valuetexts import read_value, value_text


def marking_of(view):
    """The shortest beginning of the list of the view's plan that is a key, an Order."""
    return view.marking()


def token_of(view, position):
    """The token of the row at a position of the view."""
    if not is_count(position) or position >= len(view):
        raise InvalidCount(position)
    values = view.values_at(position, marking_of(view).columns)
    return " ".join([value_text(value) for value in (view.number, *values)])


def values_in_token(view, text):
    """The list of the values in a token of the view, or None for any value that is no such token."""
    if not isinstance(text, str):
        return None
    number, *parts = text.split(" ")
    columns = marking_of(view).columns
    values = [read_value(part) for part in parts]
    if number != value_text(view.number) or len(values) != len(columns):
        return None
    if not all([can_have(view, thing, value) for thing, value in zip(columns, values)]):
        return None
    return values


def can_have(view, thing, value):
    """Whether a value can be that of a row of the view in a thing, by its kind."""
    kind = view.kind_of(thing)
    return is_count(value) if kind == COMING else has_kind(value, kind)


def page_after(view, text, count):
    """The list of the first rows of the view, as many as count says, that are behind a token."""
    values = values_in_token(view, text)
    if values is None:
        raise InvalidToken(text)
    if not is_count(count):
        raise InvalidCount(count)
    behind = [row for position, row in enumerate(view.rows()) if is_behind(view, values, position)]
    return behind[:count]


def is_behind(view, values, position):
    """Whether the row at a position of the view is behind a row that has these values in the marking."""
    columns = marking_of(view).columns
    own = view.values_at(position, columns)
    signs = {thing: sign_between(one, other) for thing, one, other in zip(columns, values, own)}
    return marking_of(view).sign(signs) == -1


class Paging:
    """A way through the rows of a view, page by page, while rows come and go."""

    def __init__(self, view, count):
        if not is_integer(count) or count < 1:
            raise InvalidCount(count)
        self._view = view
        self._count = count
        self._last = None

    def page(self):
        """The list of the rows of the next page."""
        if self._last is None:
            found = self._view.rows()[:self._count]
        else:
            found = page_after(self._view, self._last, self._count)
        if len(found) > 0:
            # The row may be gone when the next page is asked for, but its token stays.
            self._last = token_of(self._view, self._view.spot(found[-1]))
        return found
