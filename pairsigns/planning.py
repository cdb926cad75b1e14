"""Planning: which plans serve a query, and which of them has the least work."""

from heapq import heappop, heappush

from pairsigns.basics import is_listing, tuples_over
from pairsigns.errors import InvalidOffer, InvalidPlan
from pairsigns.plans import PlanCheck, count_of, is_stream, is_whole, plans_inside, stream_in, work_of
from pairsigns.queries import check_fits, is_one_of
from pairsigns.rules import Rules, is_rule_for
from pairsigns.serving import Judge, filled
from pairsigns.wishes import Space

MOST_OFFERS = 6


def has_sort_above(plan):
    """Whether there is a sort above distinct or groups in a whole plan or shape."""
    below = plan[1] if plan[0] == "first" else plan
    return below[0] == "sort" and not is_stream(below)


def with_stream(shape, stream):
    """A whole shape with another stream."""
    if is_stream(shape):
        return stream
    many = len(shape) - 1
    return (*shape[:many], with_stream(shape[many], stream))


def indexes_in(plan):
    """The sorted tuple of the indexes, tuples (table, name), by which a plan reads its tables."""
    found = [index for part in plans_inside(plan) for index in indexes_in(part)]
    if plan[0] == "index":
        found.append((plan[1], plan[2]))
    if plan[0] == "seek":
        found.append((plan[2], plan[3]))
    return tuple(sorted(found))


class Planner:
    """What is known of a catalog and a query, to find plans."""

    def __init__(self, catalog, query):
        check_fits(catalog, query)
        self._query = query
        self._check = PlanCheck(catalog, query, 1)
        self._judge = Judge(catalog, query)
        self._space = Space(catalog, query)

    def serves(self, plan):
        """Whether a plan serves the query, for any value."""
        if self._check.fault(plan, ()) is not None or not is_whole(self._query, plan):
            return False
        stream = stream_in(plan)
        if self._judge.orders_serving(stream, self.asked_orders(plan)) is None:
            return False
        return self._query.runs == "none" or self._judge.stands_together(stream)

    def asked_orders(self, plan):
        """The list of the orders by which the stream of a whole plan or shape must be sorted."""
        return [] if has_sort_above(plan) else [self._query.order.entries]

    def is_shape(self, value):
        """Whether this is a shape of the space, for any value."""
        return self._space.is_shape(value)

    def filling(self, shape):
        """A plan that fills a shape of the space and serves, or counts, or None."""
        stream, asked = stream_in(shape), self.asked_orders(shape)
        if self._query.runs == "none":
            orders = self._judge.orders_serving(stream, asked)
        elif count_of(stream, "sort") > 0:
            orders = self.orders_by_wanted(stream, asked, ())
        else:
            orders = self._judge.orders_serving(stream, asked)
            if orders is not None and not self._judge.stands_together(stream):
                return None
        return None if orders is None else with_stream(shape, filled(stream, orders))

    def orders_by_wanted(self, stream, asked, begun):
        """The list of the orders for the sorts of a stream, such that it is sorted as it is asked, and also by some
        order of all wanted references that begins with these entries; None if there are none."""
        orders = self._judge.orders_serving(stream, [*asked, begun])
        taken = [column for column, _ in begun]
        left = [reference for reference in self._query.wanted if reference not in taken]
        if orders is None or len(left) == 0:
            return orders
        for entry in [(reference, direction) for reference in left for direction in ("up", "down")]:
            found = self.orders_by_wanted(stream, asked, (*begun, entry))
            if found is not None:
                return found
        return None

    def least(self, most_sorts):
        """A plan of least work, or None if it has more sorts than this; None stands for any number of sorts."""
        queue, listed, number = [], {}, 0
        for read in [plan for table in self._query.tables for plan in self._space.reads(table)]:
            number = number + 1
            heappush(queue, (0, 0, number, False, read))
        while len(queue) > 0:
            _, _, _, is_ended, plan = heappop(queue)
            if is_ended:
                found = self.filling(plan)
                if found is not None:
                    return found
            elif self.is_worth_going_on(plan, listed):
                for ended, longer in self.continued(plan):
                    sorts, seeks = work_of(longer)
                    if most_sorts is None or sorts <= most_sorts:
                        number = number + 1
                        heappush(queue, (sorts, seeks, number, ended, longer))
        return None

    def index_sets(self):
        """The list of the sets of indexes, each a sorted tuple of tuples (table, name), by which plans without sorts
        that serve read their tables; sets are left out that are never better than others."""
        found, listed = [], {}
        waiting = [plan for table in self._query.tables for plan in self._space.reads(table)]
        while len(waiting) > 0:
            stream = waiting.pop()
            used = indexes_in(stream)
            name = (self._judge.list_text(stream), used)
            if name not in listed and self._judge.orders_serving(stream, []) is not None:
                listed[name] = True
                found.extend([used for shape in self.ends_without_sorts(stream) if self.filling(shape) is not None])
                waiting.extend(self.steps_without_sorts(stream))
        return found

    def ends_without_sorts(self, stream):
        """The list of the whole shapes with a stream without sorts that have no sort above it."""
        shapes = self._space.tops(stream) if self._space.is_complete(stream) else []
        return [shape for shape in shapes if count_of(shape, "sort") == 0]

    def steps_without_sorts(self, stream):
        """The list of the plans that add one table to a stream without sorts, without sorting it."""
        return [longer for longer in self._space.simple_steps(stream) if count_of(longer, "sort") == 0]

    def is_worth_going_on(self, stream, listed):
        """Whether the merges in a stream can be served, and no stream without sorts came earlier with its list."""
        if self._judge.orders_serving(stream, []) is None:
            return False
        if count_of(stream, "sort") > 0:
            return True
        name = self._judge.list_text(stream)
        if name in listed:
            return False
        listed[name] = True
        return True

    def continued(self, stream):
        """The list of the tuples (is it a whole shape, plan) that go on from a stream; those are left out that are
        never better than others: sorts of an index, as a heap sorted by more is the same, and merges by two classes."""
        sorted_stream = [] if stream[0] in ("sort", "index") else [(False, ("sort", (), stream))]
        if self._space.is_complete(stream):
            return [*sorted_stream, *[(True, shape) for shape in self._space.tops(stream)]]
        return [*sorted_stream, *[(False, longer) for longer in self._space.simple_steps(stream)]]


def serves(catalog, query, plan):
    """Whether a plan serves the query, for any value."""
    return Planner(catalog, query).serves(plan)


def filling(catalog, query, shape):
    """A plan that fills a shape of the space and serves (with runs: that counts), or None."""
    planner = Planner(catalog, query)
    if not planner.is_shape(shape):
        raise InvalidPlan(())
    return planner.filling(shape)


def least_plan(catalog, query):
    """A plan of least work."""
    return Planner(catalog, query).least(None)


def check_offers(catalog, query, offered):
    """Raises InvalidOffer unless these are rules that can be added."""
    if not is_listing(offered) or len(offered) > MOST_OFFERS:
        raise InvalidOffer(-1)
    there = {table: list(catalog.rules_of(table).rules) for table in query.tables}
    for position, offer in enumerate(offered):
        if not is_offer(catalog, there, offer):
            raise InvalidOffer(position)
        there[offer[0]].append(offer[1])


def is_offer(catalog, there, value):
    """Whether this is a tuple of a table and a rule for it that can be added to those that are there."""
    if not isinstance(value, tuple) or len(value) != 2 or not is_one_of(value[0], there):
        return False
    table, rule = value
    if not is_rule_for(catalog.rules_of(table).names(), rule) or rule in there[table]:
        return False
    return len(there[table]) < Rules.MAX_RULES


def least_rules(catalog, query, offered):
    """The least set of the offered rules with which no sort is needed, a tuple of positions, or None."""
    check_fits(catalog, query)
    check_offers(catalog, query, offered)
    # More rules never make it worse, so that nothing else needs to be tried if all of them do not suffice.
    if not suffices(catalog, query, offered):
        return None
    choices = tuples_over((False, True), len(offered))
    sets = [tuple([position for position, taken in enumerate(choice) if taken]) for choice in choices]
    for positions in sorted(sets, key=lambda chosen: (len(chosen), chosen)):
        if suffices(catalog, query, [offered[position] for position in positions]):
            return positions
    return None


def suffices(catalog, query, offers):
    """Whether with these rules added a plan of least work has no sorts."""
    for table, rule in offers:
        catalog = catalog.with_rules(table, catalog.rules_of(table).with_rule(rule))
    return Planner(catalog, query).least(0) is not None
