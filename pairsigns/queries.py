"""Queries, the combinations of rows that fit them, and their answers."""

from pairsigns.basics import has_kind, is_integer, is_listing, is_value
from pairsigns.errors import InvalidQuery, UnknownName, UnknownTable, Unlike
from pairsigns.references import kinds_by_reference, reference_to
from pairsigns.rules import Rules
from pairsigns.signs import Order, entries_in, is_entry
from pairsigns.sorting import placed_entries, sorted_by
from pairsigns.tables import Catalog

MOST_TABLES = 3
MOST_EQUALITIES = 4
MOST_FILTERS = 8
MOST_WANTED = 6
MOST_WANTED_WITH_RUNS = 3
MOST_FIRST = 1000
RUNS = ("none", "distinct", "groups")
FILTER_SIGNS = ("=", "<", "<=", ">", ">=")


def check_part(part, values, least, most, fits):
    """Raises InvalidQuery for a wrong number of values, or for the first one that does not fit behind those before."""
    if not least <= len(values) <= most:
        raise InvalidQuery(part, -1)
    for position, value in enumerate(values):
        if not fits(value, values[:position]):
            raise InvalidQuery(part, position)


def check_form(part, fits):
    """Raises InvalidQuery for a part that as a whole does not fit."""
    if not fits:
        raise InvalidQuery(part, -1)


def is_one_of(value, words):
    """Whether this is one of the strings, for any value."""
    return isinstance(value, str) and value in words


def check_tables(catalog, tables):
    """Raises InvalidQuery unless these are different tables of the catalog."""
    check_form("tables", isinstance(tables, tuple))
    known = catalog.tables
    check_part("tables", tables, 1, MOST_TABLES, lambda table, before: is_one_of(table, known) and table not in before)


def is_equality(kinds, value):
    """Whether this is a tuple of two different references of one kind."""
    if not isinstance(value, tuple) or len(value) != 2:
        return False
    one, other = value
    return is_one_of(one, kinds) and is_one_of(other, kinds) and one != other and kinds[one] == kinds[other]


def is_filter(kinds, value):
    """Whether this is a tuple of a reference, a sign that its kind allows, and a value of this kind."""
    if not isinstance(value, tuple) or len(value) != 3:
        return False
    reference, sign, bound = value
    if not is_one_of(reference, kinds) or not is_one_of(sign, FILTER_SIGNS) or not has_kind(bound, kinds[reference]):
        return False
    return kinds[reference] == "number" or sign == "="


def check_conditions(kinds, equalities, filters):
    """Raises InvalidQuery unless these are lists of equalities and of filters."""
    check_form("equalities", is_listing(equalities))
    check_part("equalities", equalities, 0, MOST_EQUALITIES, lambda value, before: is_equality(kinds, value))
    check_form("filters", is_listing(filters))
    check_part("filters", filters, 0, MOST_FILTERS, lambda value, before: is_filter(kinds, value))


def check_wanted(kinds, wanted, runs):
    """Raises InvalidQuery unless these are different references, not too many for such runs."""
    check_form("wanted", isinstance(wanted, tuple))
    most = MOST_WANTED_WITH_RUNS if is_one_of(runs, ("distinct", "groups")) else MOST_WANTED
    check_part("wanted", wanted, 1, most, lambda value, before: is_one_of(value, kinds) and value not in before)


def check_order(wanted, order):
    """Raises InvalidQuery unless this is an order by wanted references."""
    entries = entries_in(order)
    check_form("order", is_listing(entries))
    check_part("order", entries, 0, len(entries), lambda entry, before: is_next_entry(wanted, entry, before))


def is_next_entry(wanted, entry, before):
    """Whether this is an entry with a wanted reference that is in no entry before."""
    return is_entry(entry) and entry[0] in wanted and entry[0] not in [column for column, _ in before]


def check_first(first):
    """Raises InvalidQuery unless this is None or a number of rows."""
    check_form("first", first is None or (is_integer(first) and 1 <= first <= MOST_FIRST))


def check_connected(tables, equalities):
    """Raises InvalidQuery for the first table that no path of equalities connects to the first one."""
    linked = [(one.partition(".")[0], other.partition(".")[0]) for one, other in equalities]
    reached = [tables[0]]
    # Every round but the last one reaches one more table.
    for _ in tables:
        reached = [*reached, *[there for one, other in linked for here, there in ((one, other), (other, one))
                               if here in reached and there not in reached]]
    for position, table in enumerate(tables):
        if table not in reached:
            raise InvalidQuery("tables", position)


class Query:
    """Which rows of a few tables are wanted, and in what sequence."""

    def __init__(self, catalog, tables, *, equalities=(), filters=(), wanted, runs="none", order=(), first=None):
        check_tables(catalog, tables)
        columns = {table: catalog.rules_of(table).columns for table in tables}
        kinds = kinds_by_reference(list(columns.items()))
        check_conditions(kinds, equalities, filters)
        check_wanted(kinds, wanted, runs)
        check_form("runs", is_one_of(runs, RUNS))
        check_order(wanted, order)
        check_first(first)
        check_connected(tables, equalities)
        self._tables = tables
        self._columns = columns
        self._equalities = tuple(equalities)
        self._filters = tuple(filters)
        self._wanted = wanted
        self._runs = runs
        self._order = Order(order)
        self._first = first

    @property
    def tables(self):
        """The tuple of the names of the tables."""
        return self._tables

    @property
    def equalities(self):
        """The tuple of the tuples of two references."""
        return self._equalities

    @property
    def filters(self):
        """The tuple of the tuples of a reference, a sign and a value."""
        return self._filters

    @property
    def wanted(self):
        """The tuple of the wanted references."""
        return self._wanted

    @property
    def runs(self):
        """One of `none`, `distinct` and `groups`."""
        return self._runs

    @property
    def order(self):
        """The Order."""
        return self._order

    @property
    def first(self):
        """The number of rows that are wanted, or None for all of them."""
        return self._first

    def columns_of(self, table):
        """The columns of one of the tables."""
        if not is_one_of(table, self._tables):
            raise UnknownTable(table)
        return self._columns[table]

    def changed(self, **parts):
        """A new Query with some of the parts other than the tables replaced."""
        kept = self._parts()
        for name in sorted(parts):
            if name not in kept:
                raise UnknownName(name)
        kept.update(parts)
        # The query keeps no catalog, but its columns make one that is as good for it.
        catalog = Catalog([(table, Rules(self._columns[table]), []) for table in self._tables])
        return Query(catalog, self._tables, **kept)

    def _parts(self):
        """The dict from the names of the parts other than the tables to these parts."""
        return {"equalities": self._equalities, "filters": self._filters, "wanted": self._wanted, "runs": self._runs,
                "order": self._order, "first": self._first}

    def __eq__(self, other):
        return isinstance(other, Query) and self._tables == other._tables and self._columns == other._columns and (
            self._parts() == other._parts())


def query_fits(catalog, query):
    """Whether the catalog has the tables of the query, with the same columns."""
    return all([table in catalog.tables and catalog.rules_of(table).columns == query.columns_of(table)
                for table in query.tables])


def check_fits(catalog, query):
    """Raises Unlike unless the query fits the catalog."""
    if not query_fits(catalog, query):
        raise Unlike()


def combinations(database, query):
    """Yields the fitting combinations of all tables, tuples of places, sorted."""
    for chosen in fitting_rows(database, query):
        yield tuple([place for place, _ in chosen])


def fitting_rows(database, query):
    """The list of the fitting combinations, each a tuple of (place, row) for each table, sorted."""
    check_fits(database.catalog, query)
    spots = spots_of(query)
    linked = [(spots[one], spots[other]) for one, other in query.equalities]
    found = [()]
    for number, table in enumerate(query.tables):
        rows = [(place, row) for place, row in database.rows(table) if fits_alone(query, spots, number, row)]
        found = extended(found, rows, links_to(number, linked))
    return found


def spots_of(query):
    """The dict from the references to their spots: the number of the table and the position of the column."""
    return {reference_to(table, name): (number, position) for number, table in enumerate(query.tables)
            for position, (name, _) in enumerate(query.columns_of(table))}


def fits_alone(query, spots, number, row):
    """Whether a row of the table with this number fits all filters and equalities among its own columns."""
    values = {reference: row[position] for reference, (owner, position) in spots.items() if owner == number}
    for reference, sign, bound in query.filters:
        if reference in values and not holds(values[reference], sign, bound):
            return False
    return all([values[one] == values[other] for one, other in query.equalities if one in values and other in values])


def holds(value, sign, bound):
    """Whether a filter with this sign and bound holds for the value."""
    if sign == "=":
        return value == bound
    if sign in ("<", "<="):
        return value < bound or (sign == "<=" and value == bound)
    return value > bound or (sign == ">=" and value == bound)


def links_to(number, linked):
    """The list of the equalities with an earlier table: tuples (the spot there, the position of the own column)."""
    both = [*linked, *[(other, one) for one, other in linked]]
    return [(spot, position) for spot, (owner, position) in both if owner == number and spot[0] < number]


def extended(found, rows, links):
    """Each of the combinations, extended by each of the rows that is equal to it by the links."""
    by_values = {}
    for place, row in rows:
        by_values.setdefault(tuple([row[own] for _, own in links]), []).append((place, row))
    spots = [spot for spot, _ in links]
    return [(*before, added) for before in found for added in by_values.get(values_at(before, spots), [])]


def values_at(chosen, spots):
    """The tuple of the values of a combination at these spots."""
    return tuple([chosen[number][1][position] for number, position in spots])


def plain_output(database, query):
    """The sorted list of the output of the query."""
    chosen = fitting_rows(database, query)
    places = spots_of(query)
    spots = [places[reference] for reference in query.wanted]
    counts = counts_of([values_at(rows, spots) for rows in chosen])
    if query.runs == "distinct":
        return sorted(counts)
    if query.runs == "groups":
        return sorted([(*values, count) for values, count in counts.items()])
    return sorted([values for values, count in counts.items() for _ in range(count)])


def counts_of(rows):
    """The dict from the different rows to the numbers of times that they are there."""
    counts = {}
    for row in rows:
        counts[row] = counts.get(row, 0) + 1
    return counts


def is_answer(database, query, rows):
    """Whether this is an answer of the query, for any value for rows."""
    entries = placed_entries(query.order, query.wanted)
    output = sorted_by(plain_output(database, query), entries)
    many = len(output) if query.first is None else min(query.first, len(output))
    if not is_listing(rows) or len(rows) != many or not all([is_value_tuple(row) for row in rows]):
        return False
    left = counts_of(output)
    if any([count > left.get(row, 0) for row, count in counts_of(rows).items()]):
        return False
    # Rows that are alike by the order may have changed places, also with rows behind the first ones.
    return all([row[at] == wanted[at] for row, wanted in zip(rows, output) for at, _ in entries])


def is_value_tuple(value):
    """Whether this is a tuple of values; True is none, although it is equal to 1."""
    return isinstance(value, tuple) and all([is_value(part) for part in value])
