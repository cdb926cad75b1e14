"""Orders for the sorts of streams, such that their wishes are served: they are found pair by pair."""

from pairsigns.asking import breaking_ranks, without
from pairsigns.pairs import Pairs
from pairsigns.plans import count_of, orders_of_pairs, plan_tables
from pairsigns.references import references_to
from pairsigns.streams import list_of, read_entries_of, rooms_of_things


class Wish:
    """A part of the list of a stream that must sort by an order, and the pairs of rows that are still undecided."""

    def __init__(self, begin, end, pairs, entries):
        self._begin = begin
        self._end = end
        self._pairs = pairs
        self._left = pairs.ahead_by(entries)

    def reaches(self, position):
        """Whether what stands at this position in the list decides about the wish."""
        return self._begin <= position < self._end

    def is_decided_by(self, entry):
        """Whether an entry decides something that is undecided."""
        return without(self._left, self._pairs.having(entry[0], 0)) != 0

    def contradicting(self, entry):
        """The set of the undecided pairs that an entry decides in another way than it is wished."""
        wrong = -1 if entry[1] == "down" else 1
        return self._left & self._pairs.having(entry[0], wrong)

    def is_contradicted_by(self, entry):
        """Whether an entry decides an undecided pair in another way than it is wished."""
        return self.contradicting(entry) != 0

    def signs_against(self, entry):
        """The dict from the things to the signs of an undecided pair that contradicts an entry."""
        return self._pairs.first_of(self.contradicting(entry))

    def take(self, entry):
        """Leaves those pairs undecided that are alike in an entry of the list."""
        self._left = self._left & self._pairs.having(entry[0], 0)


def orders_for(places, wishes):
    """The list of the orders for the open places in a list, such that all wishes are served, or None."""
    orders = []
    for position, (column, told) in enumerate(places):
        reached = [wish for wish in wishes if wish.reaches(position)]
        if column is None:
            order = order_for_place(told, reached)
            if len(order) == 0:
                return None
            orders.append(order)
        elif any([wish.is_contradicted_by((column, told)) for wish in reached]):
            return None
        else:
            take_entry(reached, (column, told))
    return orders


def take_entry(wishes, entry):
    """Tells all of the wishes that this entry decides next."""
    for wish in wishes:
        wish.take(entry)


def order_for_place(references, wishes):
    """The entries for a sort that no wish contradicts: those that decide something, or one that does not; () if
    there is none."""
    entries = [(reference, direction) for reference in references for direction in ("up", "down")]
    order = ()
    added = deciding_entries(entries, wishes)
    while len(added) > 0:
        order = (*order, added[0])
        take_entry(wishes, added[0])
        added = deciding_entries(entries, wishes)
    return order if len(order) > 0 else tuple(possible_entries(entries, wishes)[:1])


def possible_entries(entries, wishes):
    """The list of those of the entries that no wish contradicts."""
    return [entry for entry in entries if not any([wish.is_contradicted_by(entry) for wish in wishes])]


def deciding_entries(entries, wishes):
    """The list of those of the entries that no wish contradicts, and that decide something for one of them."""
    return [entry for entry in possible_entries(entries, wishes) if any([wish.is_decided_by(entry) for wish in wishes])]


def filled(plan, orders):
    """A stream of which the sorts have these orders, in the sequence of its list."""
    if plan[0] == "sort":
        return ("sort", orders[0], filled(plan[2], orders[1:]))
    if plan[0] == "merge":
        many = count_of(plan[2], "sort")
        return ("merge", plan[1], filled(plan[2], orders[:many]), filled(plan[3], orders[many:]))
    if plan[0] == "seek":
        _, inside, table, name, bound = plan
        return ("seek", filled(inside, orders), table, name, bound)
    return plan


class Judge:
    """What has been found about the tables of a query, to tell which streams serve it."""

    def __init__(self, catalog, query):
        self._catalog = catalog
        self._query = query
        self._pairs = {}
        self._together = {}

    def pairs_of(self, tables):
        """The free worlds of two rows of these tables."""
        name = " ".join(sorted(tables))
        if name not in self._pairs:
            self._pairs[name] = Pairs(self._catalog, self._query, tuple(sorted(tables)))
        return self._pairs[name]

    def laid_out(self, plan):
        """The tuple of the entries of the list of a stream, sorts without entries being places (None, references),
        and the wishes of its merges, tuples (begin, end, tables, entries)."""
        if plan[0] == "merge":
            return self.merge_laid_out(plan[1], plan[2], plan[3])
        if plan[0] in ("heap", "index"):
            return (read_entries_of(self._catalog, plan), [])
        if plan[0] == "seek":
            places, wishes = self.laid_out(plan[1])
            return ([*places, *read_entries_of(self._catalog, plan)], wishes)
        places, wishes = self.laid_out(plan[2])
        ahead = list(plan[1]) if len(plan[1]) > 0 else [(None, self.references_of(plan))]
        many = len(ahead)
        return ([*ahead, *places], [(begin + many, end + many, tables, order) for begin, end, tables, order in wishes])

    def merge_laid_out(self, pairs, plan, other):
        """What laid_out returns, for a merge."""
        places, wishes = self.laid_out(plan)
        beside = self.laid_out(other)[0]
        many = len(places)
        first, second = orders_of_pairs(pairs)
        return ([*places, *beside], [*wishes, (0, many, plan_tables(plan), first),
                                     (many, many + len(beside), plan_tables(other), second)])

    def references_of(self, plan):
        """The list of the references to the tables of a plan."""
        return [reference for table in plan_tables(plan) for reference in references_to(self._query, table)]

    def orders_serving(self, plan, orders):
        """The list of the orders for the sorts of a stream without entries, such that its merges get what they wish
        and it is sorted by all of these orders; None if there are none."""
        places, wishes = self.places_and_wishes(plan, orders)
        return orders_for(places, wishes)

    def places_and_wishes(self, plan, orders):
        """The list of the places in the list of a stream, as laid_out has them, and the list of the Wishes of its
        merges, innermost first, and then of the stream itself, which must be sorted by all of these orders."""
        places, wished = self.laid_out(plan)
        whole = [(0, len(places), plan_tables(plan), order) for order in orders]
        return (places, [Wish(begin, end, self.pairs_of(tables), order)
                         for begin, end, tables, order in [*wished, *whole]])

    def list_text(self, plan):
        """The text of the list of a stream."""
        return str(list_of(self._catalog, plan))

    def stands_together(self, plan):
        """Whether in a stream the rows that are alike in all wanted references stand together."""
        order = list_of(self._catalog, plan)
        name = str(order)
        if name not in self._together:
            tables = plan_tables(plan)
            rooms = rooms_of_things(self._query, tables, order)
            ranks = breaking_ranks(self.pairs_of(tables), order, rooms, ("together", self._query.wanted))
            self._together[name] = ranks is None
        return self._together[name]
