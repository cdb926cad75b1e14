"""Streams: plans that put out combinations of rows of their tables, in the sequence of a list."""

from pairsigns.classes import MOST_ROOM, numbers_of_classes, room_of
from pairsigns.errors import InvalidPlan
from pairsigns.pairs import Pairs
from pairsigns.plans import check_form, is_stream, least_entries, plan_tables, plans_inside
from pairsigns.queries import check_fits
from pairsigns.references import coming_of, reference_to, references_to
from pairsigns.signs import Order


def index_entries(catalog, table, name):
    """The entries of an index of a table as references, followed by its coming."""
    entries = dict(catalog.indexes_of(table))[name].entries
    return [*[(reference_to(table, column), direction) for column, direction in entries], (coming_of(table), "up")]


def read_entries_of(catalog, plan):
    """The entries by which the rows of the table come that a heap, an index or a seek reads."""
    if plan[0] == "heap":
        return [(coming_of(plan[1]), "up")]
    table, name = plan[1:3] if plan[0] == "index" else plan[2:4]
    return index_entries(catalog, table, name)


def listed_entries(catalog, plan):
    """The entries of the list of a stream, in sequence; a column may come again."""
    inside = [entry for part in plans_inside(plan) for entry in listed_entries(catalog, part)]
    if plan[0] == "sort":
        return [*plan[1], *inside]
    return inside if plan[0] == "merge" else [*inside, *read_entries_of(catalog, plan)]


def list_of(catalog, plan):
    """The list of a stream, an Order."""
    first = {}
    for column, direction in listed_entries(catalog, plan):
        first.setdefault(column, direction)
    return Order(list(first.items()))


def classes_within(query, references):
    """The sorted tuple of the sorted tuples of those of the references that are in one class."""
    numbers = numbers_of_classes(query)
    groups = {}
    for reference in sorted(references):
        groups.setdefault(numbers[reference], []).append(reference)
    return tuple(sorted([tuple(group) for group in groups.values()]))


def things_of(query, tables):
    """The tuple of the references to each of the tables, each time followed by its coming."""
    return tuple([thing for table in tables for thing in (*references_to(query, table), coming_of(table))])


def rooms_of_things(query, tables, order):
    """The dict from the things of the tables to their rooms, those of an order first; coming has no limit."""
    comings = [coming_of(table) for table in tables]
    things = [*order.columns, *[thing for thing in things_of(query, tables) if thing not in order]]
    return {thing: MOST_ROOM if thing in comings else room_of(query, thing) for thing in things}


class Stream:
    """A plan, or a shape, of which the rows come in the sequence of a list."""

    def __init__(self, catalog, query, plan):
        check_fits(catalog, query)
        check_form(catalog, query, plan, least_entries(plan))
        if not is_stream(plan):
            raise InvalidPlan(())
        self._catalog = catalog
        self._query = query
        self._plan = plan
        self._tables = plan_tables(plan)
        self._order = list_of(catalog, plan)
        self._references = tuple([reference for table in self._tables for reference in references_to(query, table)])
        self._things = things_of(query, self._tables)
        self._classes = classes_within(query, self._references)
        self._pairs = None

    @property
    def catalog(self):
        """The Catalog."""
        return self._catalog

    @property
    def query(self):
        """The Query."""
        return self._query

    @property
    def plan(self):
        """The plan or the shape, a tuple."""
        return self._plan

    @property
    def tables(self):
        """The tuple of the tables, in sequence."""
        return self._tables

    @property
    def order(self):
        """The list of the stream, an Order."""
        return self._order

    @property
    def references(self):
        """The tuple of the references to the tables, by tables, then by columns."""
        return self._references

    @property
    def things(self):
        """The tuple of the references to each table, each time followed by its coming."""
        return self._things

    @property
    def classes(self):
        """The sorted tuple of the sorted tuples of the references that are in one class."""
        return self._classes

    def pairs(self):
        """The free worlds of two rows of its tables; they are found when they are asked for first."""
        if self._pairs is None:
            self._pairs = Pairs(self._catalog, self._query, self._tables)
        return self._pairs

    def rooms(self):
        """The dict from the things to their rooms, those of the list first."""
        return rooms_of_things(self._query, self._tables, self._order)

    def __eq__(self, other):
        return isinstance(other, Stream) and self._catalog == other._catalog and (
            self._query == other._query and self._plan == other._plan)
