"""Wishes of plans and shapes, and the space of shapes of a query."""

from pairsigns.errors import InvalidPlan
from pairsigns.plans import (RUNS, PlanCheck, check_form, has_plan_form, is_whole, least_entries, merge_wishes,
                             plan_tables, plans_inside, stream_in)
from pairsigns.queries import check_fits
from pairsigns.references import references_to
from pairsigns.signs import Order
from pairsigns.streams import Stream


def part_below_runs(value):
    """What stands below distinct or groups in a value of any kind, or None."""
    if not has_plan_form(value) or value[0] not in ("first", "sort", *RUNS):
        return None
    inside = plans_inside(value)[0]
    return inside if value[0] in RUNS else part_below_runs(inside)


def check_plan_or_shape(catalog, query, value):
    """Raises InvalidPlan for any value that is neither a plan of the query nor a shape."""
    check_fits(catalog, query)
    below = part_below_runs(value)
    check_form(catalog, query, value, least_entries(value if below is None else below))


def wishes_of(catalog, query, plan):
    """The list of the wishes of a whole plan or a shape: tuples of a Stream and an Order."""
    check_plan_or_shape(catalog, query, plan)
    if not is_whole(query, plan):
        raise InvalidPlan(())
    stream = stream_in(plan)
    wished = merge_wishes(stream)
    if query.runs == "none" and len(query.order) > 0:
        wished.append((stream, query.order))
    return [(Stream(catalog, query, part), Order(order)) for part, order in wished]


def is_simple_merge(plan):
    """Whether a merge is by one class, and its other plan is not a sort above an index."""
    other = plan[3]
    return len(plan[1]) == 1 and (other[0] != "sort" or other[2][0] != "index")


class Space:
    """The shapes of a query in a catalog, step by step."""

    def __init__(self, catalog, query):
        self._catalog = catalog
        self._query = query
        self._check = PlanCheck(catalog, query, 0)

    def is_shape(self, value):
        """Whether this is a shape of the space, for any value."""
        if self._check.fault(value, ()) is not None or not is_whole(self._query, value):
            return False
        return self.has_stream(stream_in(value))

    def has_stream(self, stream):
        """Whether a right stream is one of those in the shapes of the space."""
        inside = stream[2] if stream[0] == "sort" else stream
        if stream not in (inside, ("sort", (), inside)):
            return False
        if inside[0] in ("heap", "index"):
            return True
        begun = plans_inside(inside)[0]
        return self.has_stream(begun) and inside in self.steps(begun)

    def reads(self, table):
        """The list of the plans that read a table without sorting it."""
        return [("heap", table), *[("index", table, name) for name, _ in self._catalog.indexes_of(table)]]

    def reads_beside(self, table):
        """The list of the plans that can stand beside a plan in a merge, for a table."""
        return [plan for read in self.reads(table) for plan in (read, ("sort", (), read))]

    def is_complete(self, plan):
        """Whether a plan has all tables of the query."""
        return len(plan_tables(plan)) == len(self._query.tables)

    def tables_behind(self, plan):
        """The list of the tables that can be added to a plan."""
        taken = plan_tables(plan)
        return [table for table in self._query.tables if table not in taken and self._check.are_joined(plan, table)]

    def steps(self, plan):
        """The list of the plans that add one table to a plan."""
        found = []
        for table in self.tables_behind(plan):
            joins = self.single_pairs(plan, table)
            chosen = [*[(one,) for one in joins], *[(one, two) for one in joins for two in joins if one[0] != two[0]]]
            found.extend([("merge", pairs, plan, other) for pairs in chosen for other in self.reads_beside(table)])
            found.extend(self.seeks(plan, table))
        return found

    def simple_steps(self, plan):
        """The list of those of the steps that merge by one class, and do not sort an index beside."""
        return [step for step in self.steps(plan) if step[0] == "seek" or is_simple_merge(step)]

    def single_pairs(self, plan, table):
        """The list of the pairs by which a plan and a table can be merged, in each direction."""
        known = {}
        for taken in plan_tables(plan):
            for reference in references_to(self._query, taken):
                known.setdefault(self._check.class_number(reference), reference)
        shared = {}
        for reference in references_to(self._query, table):
            number = self._check.class_number(reference)
            if number in known:
                shared.setdefault(number, (known[number], reference))
        return [(one, other, direction) for one, other in shared.values() for direction in ("up", "down")]

    def seeks(self, plan, table):
        """The list of the seeks that add a table to a plan."""
        bounds = [(name, self._check.most_bound(plan, table, name)) for name, _ in self._catalog.indexes_of(table)]
        return [("seek", plan, table, name, bound) for name, bound in bounds if bound > 0]

    def tops(self, stream):
        """The list of the whole shapes, or plans, with this stream."""
        found = [stream]
        if self._query.runs != "none":
            found = [(self._query.runs, stream)]
            if len(self._query.order) > 0:
                found.append(("sort", self._query.order.entries, (self._query.runs, stream)))
        return found if self._query.first is None else [("first", plan) for plan in found]


def shapes_of(catalog, query):
    """Yields each shape of the space of the query once."""
    check_fits(catalog, query)
    space = Space(catalog, query)
    for read in [plan for table in query.tables for plan in space.reads(table)]:
        for stream in grown_streams(space, read):
            for shape in space.tops(stream):
                yield shape


def grown_streams(space, plan):
    """Yields the streams with all tables that begin with a plan, or with a sort above it."""
    for begun in (plan, ("sort", (), plan)):
        if space.is_complete(begun):
            yield begun
        for longer in space.steps(begun):
            yield from grown_streams(space, longer)


def is_shape(catalog, query, value):
    """Whether this is a shape of the space of the query, for any value."""
    check_fits(catalog, query)
    return Space(catalog, query).is_shape(value)
