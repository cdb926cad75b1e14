"""Running of plans: their rows are drawn one by one, and what breaks a precondition is told at once."""

from pairsigns.basics import sign_between
from pairsigns.classes import is_within, numbers_of_classes, range_of
from pairsigns.errors import Apart, InvalidPlan, OutOfOrder
from pairsigns.plans import check_plan, is_stream, is_whole, orders_of_pairs, plan_tables, stream_in
from pairsigns.queries import values_at
from pairsigns.references import references_to
from pairsigns.signs import sign_by
from pairsigns.sorting import placed_entries, sorted_by


class Run:
    """What the parts of a plan read while it runs."""

    def __init__(self, database, query):
        self._database = database
        self._query = query
        self._numbers = numbers_of_classes(query)
        self._ranges = {reference: range_of(query, reference) for reference in self._numbers}
        self._rows = {table: dict(database.rows(table)) for table in query.tables}

    def wanted_order(self):
        """The entries of the query's order, with positions among the wanted references."""
        return placed_entries(self._query.order, self._query.wanted)

    def most_rows(self):
        """How many rows first puts out."""
        return self._query.first

    def read_places(self, plan):
        """The places of the rows of a table that fit by themselves, as a heap, an index or a seek reads them."""
        if plan[0] == "heap":
            table, places = plan[1], [place for place, _ in self._database.rows(plan[1])]
        else:
            table, name = plan[1:3] if plan[0] == "index" else plan[2:4]
            places = self._database.sequence(table, name)
        return [place for place in places if self._fits(table, self._rows[table][place])]

    def _fits(self, table, row):
        """Whether the values of a row are in their ranges, and those of one class are alike."""
        first = {}
        for reference, value in zip(references_to(self._query, table), row):
            if not is_within(self._ranges[reference], value):
                return False
            if first.setdefault(self._numbers[reference], value) != value:
                return False
        return True

    def spots_of(self, tables, references):
        """The list of the spots of references in the rows of a stream: the numbers of the table and the column."""
        spots = {reference: (number, position) for number, table in enumerate(tables)
                 for position, reference in enumerate(references_to(self._query, table))}
        return [spots[reference] for reference in references]

    def spots_of_wanted(self, plan):
        """The spots of the wanted references in the rows of a stream."""
        return self.spots_of(plan_tables(plan), self._query.wanted)

    def values_of(self, tables, row, spots):
        """The tuple of the values of a row of a stream at these spots."""
        return values_at([(place, self._rows[table][place]) for table, place in zip(tables, row)], spots)

    def shared_spots(self, tables, table):
        """The spots of references in rows of these tables, and in rows of this table, that have to be alike."""
        own = {self._numbers[reference]: reference for reference in references_to(self._query, table)}
        linked = {self._numbers[reference]: reference for known in tables
                  for reference in references_to(self._query, known) if self._numbers[reference] in own}
        return (self.spots_of(tables, list(linked.values())),
                self.spots_of((table,), [own[number] for number in linked]))


def run_plan(database, query, plan):
    """Yields the rows of a plan, as soon as they are known."""
    check_plan(database.catalog, query, plan)
    run = Run(database, query)
    yield from rows_of(run, plan, ())


def rows_of(run, plan, path):
    """Yields the rows of the plan at this path."""
    word = plan[0]
    if word in ("heap", "index"):
        for place in run.read_places(plan):
            yield (place,)
    elif word == "sort":
        for row in sorted_rows(run, plan, path):
            yield row
    elif word == "merge":
        yield from merged_rows(run, plan, path)
    elif word == "seek":
        yield from sought_rows(run, plan, path)
    elif word == "distinct":
        yield from distinct_rows(run, plan, path)
    elif word == "groups":
        yield from grouped_rows(run, plan, path)
    else:
        yield from first_rows(run, plan, path)


def sorted_rows(run, plan, path):
    """The list of the rows of the plan inside a sort, sorted."""
    inside, below = plan[2], (*path, 2)
    rows = list(rows_of(run, inside, below))
    if not is_stream(inside):
        return sorted_by(rows, run.wanted_order())
    tables = plan_tables(inside)
    spots = run.spots_of(tables, [column for column, _ in plan[1]])
    keyed = [(*run.values_of(tables, row, spots), row) for row in rows]
    return [row[-1] for row in sorted_by(keyed, [(at, entry[1]) for at, entry in enumerate(plan[1])])]


class Side:
    """One side of a merge, of which the rows have to come in order."""

    def __init__(self, run, plan, entries, path):
        self._run = run
        self._tables = plan_tables(plan)
        self._spots = run.spots_of(self._tables, [reference for reference, _ in entries])
        self._directions = [(at, direction) for at, (_, direction) in enumerate(entries)]
        self._path = path
        self._last = None

    def take(self, row):
        """Raises OutOfOrder if this row is ahead of the one that came before it."""
        found = self._run.values_of(self._tables, row, self._spots)
        if self._last is not None:
            signs = {at: sign_between(one, other) for at, (one, other) in enumerate(zip(found, self._last))}
            if sign_by(self._directions, signs) == -1:
                raise OutOfOrder(self._path)
        self._last = found


def merged_rows(run, plan, path):
    """Yields the rows of a merge: all rows of the other plan are drawn first."""
    _, pairs, inside, other = plan
    below, beside = (*path, 2), (*path, 3)
    first, second = orders_of_pairs(pairs)
    side = Side(run, other, second, path)
    others = []
    for row in rows_of(run, other, beside):
        side.take(row)
        others.append(row[0])
    matches = Matches(run, plan_tables(inside), plan_tables(other)[0], others)
    side = Side(run, inside, first, path)
    for row in rows_of(run, inside, below):
        side.take(row)
        for place in matches.places(row):
            yield (*row, place)


def sought_rows(run, plan, path):
    """Yields the rows of a seek."""
    inside, below = plan[1], (*path, 1)
    matches = Matches(run, plan_tables(inside), plan[2], run.read_places(plan))
    for row in rows_of(run, inside, below):
        for place in matches.places(row):
            yield (*row, place)


class Matches:
    """The rows of a table by the values that they share with rows of other tables."""

    def __init__(self, run, tables, table, places):
        self._run = run
        self._known = tables
        self._spots, own = run.shared_spots(tables, table)
        self._places = {}
        for place in places:
            self._places.setdefault(run.values_of((table,), (place,), own), []).append(place)

    def places(self, row):
        """The list of the places of the rows that are alike with a row in what they share."""
        return list(self._places.get(self._run.values_of(self._known, row, self._spots), []))


def first_rows(run, plan, path):
    """Yields the first rows of a plan, and draws nothing behind the last one."""
    inside, below = plan[1], (*path, 1)
    left = run.most_rows()
    for row in rows_of(run, inside, below):
        yield row
        left = left - 1
        if left == 0:
            return


class Together:
    """The wanted values of the rows of a stream, of which those that are alike have to stand together."""

    def __init__(self, run, plan, path):
        self._run = run
        self._tables = plan_tables(plan)
        self._spots = run.spots_of_wanted(plan)
        self._path = path
        self._seen = {}
        self._last = None

    def take(self, row):
        """The wanted values of a row, and whether they are other ones than those before; raises Apart."""
        found = self._run.values_of(self._tables, row, self._spots)
        is_new = found != self._last
        if is_new and found in self._seen:
            raise Apart(self._path)
        self._seen[found] = True
        self._last = found
        return (found, is_new)


def distinct_rows(run, plan, path):
    """Yields the wanted values of each run of rows, as soon as its first row has come."""
    inside, below = plan[1], (*path, 1)
    together = Together(run, inside, path)
    for row in rows_of(run, inside, below):
        found, is_new = together.take(row)
        if is_new:
            yield found


def grouped_rows(run, plan, path):
    """Yields the wanted values of each run of rows with their number, as soon as the run has ended."""
    inside, below = plan[1], (*path, 1)
    together = Together(run, inside, path)
    last, count = None, 0
    for row in rows_of(run, inside, below):
        found, is_new = together.take(row)
        if is_new and last is not None:
            yield (*last, count)
        last, count = found, 1 if is_new else count + 1
    if last is not None:
        yield (*last, count)


def plan_output(database, query, plan):
    """The list of the output rows that a whole plan puts out."""
    check_plan(database.catalog, query, plan)
    if not is_whole(query, plan):
        raise InvalidPlan(())
    rows = list(run_plan(database, query, plan))
    if query.runs != "none":
        return rows
    run = Run(database, query)
    tables = plan_tables(plan)
    spots = run.spots_of_wanted(stream_in(plan))
    return [run.values_of(tables, row, spots) for row in rows]
