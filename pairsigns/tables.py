"""Catalogs of tables, and databases with the rows of these tables."""

from pairsigns.basics import has_kind, is_count, is_listing, is_name, sign_between
from pairsigns.errors import (InvalidName, InvalidOrder, InvalidRow, InvalidTable, NameTaken, RuleBroken, TooMany,
                              UnknownName, UnknownPlace, UnknownTable, Unlike)
from pairsigns.references import kinds_by_reference
from pairsigns.rules import Rules
from pairsigns.signs import Order, entries_in, first_wrong_entry
from pairsigns.sorting import placed_entries, sorted_by

MOST_TABLES = 4
MOST_INDEXES = 3
MOST_INDEX_ENTRIES = 3


def is_table(value):
    """Whether this is a tuple of a name, Rules and a list of indexes."""
    if not isinstance(value, tuple) or len(value) != 3:
        return False
    name, rules, indexes = value
    return is_name(name) and isinstance(rules, Rules) and are_indexes(rules.names(), indexes)


def are_indexes(names, value):
    """Whether this is a list of indexes of a table that has columns with these names."""
    if not is_listing(value) or len(value) > MOST_INDEXES:
        return False
    if not all([is_index(names, index) for index in value]):
        return False
    return len({index[0] for index in value}) == len(value)


def is_index(names, value):
    """Whether this is a tuple of a name and an order that an index can have."""
    return isinstance(value, tuple) and len(value) == 2 and is_name(value[0]) and is_index_order(names, value[1])


def is_index_order(names, value):
    """Whether an index of a table that has columns with these names can have this order, for any value."""
    entries = entries_in(value)
    if not is_listing(entries) or first_wrong_entry(entries) is not None:
        return False
    return fault_of_index(names, entries) is None


def fault_of_index(names, entries):
    """Why no index has an order of these entries: the position of the first wrong one, -1 for their number, or None."""
    for position, (column, _) in enumerate(entries):
        if column not in names:
            return position
    return None if 1 <= len(entries) <= MOST_INDEX_ENTRIES else -1


def copied_table(name, rules, indexes):
    """A table of a catalog as the catalog keeps it."""
    return (name, rules, tuple([(index, Order(order)) for index, order in indexes]))


class Catalog:
    """A few tables with their columns, rules and indexes."""

    def __init__(self, tables):
        if not is_listing(tables) or not 1 <= len(tables) <= MOST_TABLES:
            raise InvalidTable(-1)
        for position, table in enumerate(tables):
            if not is_table(table) or table[0] in [earlier[0] for earlier in tables[:position]]:
                raise InvalidTable(position)
        self._tables = tuple([copied_table(*table) for table in tables])

    @property
    def tables(self):
        """The tuple of the names of the tables."""
        return tuple([name for name, _, _ in self._tables])

    def rules_of(self, table):
        """The Rules of a table."""
        return self._whole(table)[1]

    def indexes_of(self, table):
        """The list of the indexes of a table, tuples of a name and an Order."""
        return list(self._whole(table)[2])

    def _whole(self, table):
        """The tuple of the name of a table, its Rules and its indexes."""
        for kept in self._tables:
            if isinstance(table, str) and kept[0] == table:
                return kept
        raise UnknownTable(table)

    def kind_of(self, reference):
        """The kind of the column that the reference is to."""
        kinds = kinds_by_reference([(name, rules.columns) for name, rules, _ in self._tables])
        if not isinstance(reference, str) or reference not in kinds:
            raise UnknownName(reference)
        return kinds[reference]

    def with_rules(self, table, rules):
        """A new Catalog in which the table has these Rules instead of its own."""
        if self.rules_of(table).columns != rules.columns:
            raise Unlike()
        return self._with_table(table, rules, self.indexes_of(table))

    def with_index(self, table, name, order):
        """A new Catalog in which the table has one more index."""
        rules, indexes = self.rules_of(table), self.indexes_of(table)
        if not is_name(name):
            raise InvalidName(name)
        if name in [taken for taken, _ in indexes]:
            raise NameTaken(name)
        added = Order(order)
        fault = fault_of_index(rules.names(), added.entries)
        if fault is not None:
            raise InvalidOrder(fault)
        if len(indexes) == MOST_INDEXES:
            raise TooMany("indexes", MOST_INDEXES)
        return self._with_table(table, rules, [*indexes, (name, added)])

    def _with_table(self, table, rules, indexes):
        """A new Catalog in which the table has these Rules and indexes."""
        return Catalog([(table, rules, indexes) if kept[0] == table else kept for kept in self._tables])

    def __eq__(self, other):
        return isinstance(other, Catalog) and self._tables == other._tables


def fault_of_row(columns, row):
    """Why no row with these columns has these values: the position of the first wrong one, -1 for the row as a whole,
    or None."""
    if not is_listing(row) or len(row) != len(columns):
        return -1
    for position, (value, column) in enumerate(zip(row, columns)):
        if not has_kind(value, column[1]):
            return position
    return None


def check_row(columns, row):
    """Raises InvalidRow unless these are the values of a row with these columns."""
    fault = fault_of_row(columns, row)
    if fault is not None:
        raise InvalidRow(fault)


def check_rules(table, rules, rows, added):
    """Raises RuleBroken for the first of the rows, tuples (place, row), with which an added one breaks a rule."""
    for place, earlier in rows:
        rule = rules.first_broken(vector_of(earlier, added))
        if rule is not None:
            raise RuleBroken(table, place, rule)


def vector_of(earlier, later):
    """The vector of two rows of a table, of which the first one has the smaller place."""
    return (*[sign_between(one, other) for one, other in zip(earlier, later)], -1)


class Database:
    """The rows of the tables of a catalog, which keep the rules."""

    def __init__(self, catalog):
        self._catalog = catalog
        self._rows = {table: {} for table in catalog.tables}
        self._next = {table: 0 for table in catalog.tables}

    @property
    def catalog(self):
        """The Catalog."""
        return self._catalog

    def insert(self, table, row):
        """Adds a row that breaks no rule with the rows that are there, and returns its place."""
        rules = self._catalog.rules_of(table)
        check_row(rules.columns, row)
        check_rules(table, rules, self.rows(table), row)
        place = self._next[table]
        self._rows[table][place] = tuple(row)
        self._next[table] = place + 1
        return place

    def remove(self, table, place):
        """Takes out the row at this place, and returns it."""
        row = self.row(table, place)
        del self._rows[table][place]
        return row

    def row(self, table, place):
        """The row at this place, a tuple of values."""
        kept = self._rows_of(table)
        if not is_count(place) or place not in kept:
            raise UnknownPlace(place)
        return kept[place]

    def rows(self, table):
        """The list of the tuples of a place and the row at it, by places."""
        return sorted(self._rows_of(table).items())

    def _rows_of(self, table):
        """The dict from the places to the rows of a table."""
        if not isinstance(table, str) or table not in self._rows:
            raise UnknownTable(table)
        return self._rows[table]

    def sequence(self, table, name):
        """The list of the places of all rows in the sequence of an index."""
        orders = dict(self._catalog.indexes_of(table))
        if not isinstance(name, str) or name not in orders:
            raise UnknownName(name)
        entries = placed_entries(orders[name], self._catalog.rules_of(table).names())
        listed = sorted_by([(*row, place) for place, row in self.rows(table)], entries)
        return [row[-1] for row in listed]

    def clone(self):
        """A Database with the same rows, at the same places, that goes its own way from now on."""
        other = Database(self._catalog)
        other.take_over(self._rows, self._next)
        return other

    def take_over(self, rows, places):
        """Has just these rows from now on, dicts from places to rows by tables, and these next places."""
        self._rows = {table: dict(rows[table]) for table in self._catalog.tables}
        self._next = dict(places)

    def __len__(self):
        return len([place for rows in self._rows.values() for place in rows])

    def is_like(self, other):
        """Whether another Database has the same catalog, rows and next places."""
        return self._catalog == other._catalog and self._rows == other._rows and self._next == other._next

    def __eq__(self, other):
        return isinstance(other, Database) and self.is_like(other)
