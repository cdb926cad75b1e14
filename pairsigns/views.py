"""Views: the rows of plans, kept sorted while rows of a store come and go."""

from pairsigns.asking import breaking_world
from pairsigns.basics import is_count
from pairsigns.errors import UnknownPlace
from pairsigns.running import run_plan
from pairsigns.streams import Stream


def news_between(before, after):
    """The list of the news that rows are gone and that others came, of two lists of rows."""
    # Rows that stay keep their sequence, as it depends on nothing but themselves.
    old, new = {row: True for row in before}, {row: True for row in after}
    went = [("went", position, row) for position, row in enumerate(before) if row not in new]
    came = [("came", position, row) for position, row in enumerate(after) if row not in old]
    return [*went, *came]


def values_of_rows(database, tables, rows):
    """The list of the tuples of the values of rows in all things of these tables."""
    return [tuple([value for table, place in zip(tables, row) for value in (*database.row(table, place), place)])
            for row in rows]


def is_row_of_places(value):
    """Whether this is a tuple of places; True is none, although it is equal to 1."""
    return isinstance(value, tuple) and all([is_count(place) for place in value])


class View:
    """The rows of a plan, as they are behind the last write of a store, and how this one has changed them."""

    def __init__(self, database, name, query, plan, number):
        self._name = name
        self._query = query
        self._plan = plan
        self._number = number
        self._stream = Stream(database.catalog, query, plan)
        self._marking = None
        self._read(database)
        self._news = []

    def _read(self, database):
        """Keeps all that is asked of the rows, as the view does not see the database again once it is dropped."""
        self._rows = list(run_plan(database, self._query, self._plan))
        self._spots = {row: position for position, row in enumerate(self._rows)}
        self._values = values_of_rows(database, self._stream.tables, self._rows)

    @property
    def name(self):
        """The name under which it is or was kept."""
        return self._name

    @property
    def query(self):
        """The Query."""
        return self._query

    @property
    def plan(self):
        """The plan, a tuple."""
        return self._plan

    @property
    def number(self):
        """How many views of the store were kept before it."""
        return self._number

    def rows(self):
        """The list of the rows, tuples of places."""
        return list(self._rows)

    def wanted_rows(self):
        """The list of the tuples of the wanted values of the rows."""
        return [self.values_at(position, self._query.wanted) for position, _ in enumerate(self._rows)]

    def news(self):
        """The list of what the last write has changed."""
        return list(self._news)

    def spot(self, places):
        """The position of a row."""
        if places not in self:
            raise UnknownPlace(places)
        return self._spots[places]

    def values_at(self, position, things):
        """The tuple of the values of the row at this position in these things of the stream."""
        spots = [self._stream.things.index(thing) for thing in things]
        return tuple([self._values[position][spot] for spot in spots])

    def kind_of(self, thing):
        """The kind of a thing of the stream; `coming` for the places of a table."""
        return self._stream.catalog.kind_of(thing) if thing in self._stream.references else "coming"

    def marking(self):
        """The shortest beginning of the list of the plan that is a key; it is found when it is asked for first."""
        if self._marking is None:
            count = 0
            while breaking_world(self._stream, ("key", self._stream.order.begin(count).columns)) is not None:
                count = count + 1
            self._marking = self._stream.order.begin(count)
        return self._marking

    def follow(self, database, tables):
        """Takes notice of a write to these tables of the database."""
        before = self.rows()
        if any([table in tables for table in self._query.tables]):
            self._read(database)
        self._news = news_between(before, self._rows)

    def copied_for(self, database):
        """A view of another database with the same rows, with the news of this one."""
        other = View(database, self._name, self._query, self._plan, self._number)
        other.tell(self._news)
        return other

    def tell(self, news):
        """Has these news until the next write."""
        self._news = list(news)

    def __len__(self):
        return len(self._rows)

    def __contains__(self, places):
        return is_row_of_places(places) and places in self._spots
