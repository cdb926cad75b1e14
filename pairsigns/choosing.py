"""Choosing indexes for queries, orders that are the same sort, and the rules that a plan rests on."""

from pairsigns.basics import LETTERS, is_count, is_listing, tuples_over
from pairsigns.errors import InvalidCount, InvalidOffer, InvalidOrder, NotServing, TooMany
from pairsigns.judging import is_smaller_part, let_signs
from pairsigns.planning import Planner, serves
from pairsigns.plans import plan_tables
from pairsigns.queries import check_fits, is_one_of
from pairsigns.rules import COMING
from pairsigns.signs import Order
from pairsigns.tables import MOST_INDEXES, is_index_order

MOST_OFFERS = 8
MOST_QUERIES = 6


def checked_offers(catalog, offered):
    """The list of the offers, tuples (table, Order); raises InvalidOffer."""
    if not is_listing(offered) or len(offered) > MOST_OFFERS:
        raise InvalidOffer(-1)
    left = {table: MOST_INDEXES - len(catalog.indexes_of(table)) for table in catalog.tables}
    offers = []
    for position, offer in enumerate(offered):
        if not is_offer(catalog, left, offer):
            raise InvalidOffer(position)
        table, order = offer
        left[table] = left[table] - 1
        offers.append((table, Order(order)))
    return offers


def is_offer(catalog, left, value):
    """Whether this is a tuple of a table that can have one more index and an order for it, for any value."""
    if not isinstance(value, tuple) or len(value) != 2 or not is_one_of(value[0], left) or left[value[0]] == 0:
        return False
    return is_index_order(catalog.rules_of(value[0]).names(), value[1])


def free_name(catalog, table):
    """The first of the names `ia`, `ib` and so on that no index of a table has."""
    taken = [name for name, _ in catalog.indexes_of(table)]
    number = 0
    while "i" + LETTERS[number] in taken:
        number = number + 1
    return "i" + LETTERS[number]


def with_offers(catalog, offers):
    """The catalog with these offers added as indexes, and the list of these indexes, tuples (table, name)."""
    indexes = []
    for table, order in offers:
        name = free_name(catalog, table)
        catalog = catalog.with_index(table, name, order)
        indexes.append((table, name))
    return (catalog, indexes)


def least_of_query(catalog, query, offers):
    """The sorted list of the least sets of a query."""
    extended, indexes = with_offers(catalog, offers)
    # What a plan without sorts reads by is all that it needs of the offers.
    sets = {positions_in(indexes, used): True for used in Planner(extended, query).index_sets()}
    return sorted([chosen for chosen in sets if not any([is_smaller_part(other, chosen) for other in sets])])


def positions_in(indexes, used):
    """The tuple of the positions of those of the indexes that are used."""
    return tuple([position for position, index in enumerate(indexes) if index in used])


def least_sets(catalog, query, offered):
    """The sorted list of the sets of offers that suffice for a query, of which no smaller part suffices."""
    check_fits(catalog, query)
    return least_of_query(catalog, query, checked_offers(catalog, offered))


def contains(positions, others):
    """Whether a set of positions has all of the others."""
    return all([position in positions for position in others])


def all_sets(many):
    """The list of all sets of so many positions, those with fewer ones first, then sorted."""
    choices = tuples_over((False, True), many)
    sets = [tuple([position for position, taken in enumerate(choice) if taken]) for choice in choices]
    return sorted(sets, key=lambda positions: (len(positions), positions))


class Choice:
    """The fewest of the offered indexes with which no sort is needed for several queries."""

    def __init__(self, catalog, queries, offered):
        if len(queries) > MOST_QUERIES:
            raise TooMany("queries", MOST_QUERIES)
        for query in queries:
            check_fits(catalog, query)
        self._catalog = catalog
        self._offers = checked_offers(catalog, offered)
        self._least = [least_of_query(catalog, query, self._offers) for query in queries]
        sufficing = [positions for positions in all_sets(len(self._offers)) if self._failed_by(positions) is None]
        self._chosen = sufficing[0] if len(sufficing) > 0 else None

    def _failed_by(self, positions):
        """The position of the first query for which a set does not suffice, or None."""
        for number, sets in enumerate(self._least):
            if not any([contains(positions, chosen) for chosen in sets]):
                return number
        return None

    @property
    def chosen(self):
        """The tuple of the chosen positions, or None if not even all of them suffice."""
        return self._chosen

    def needed_by(self, position):
        """The position of the first query for which the choice does not suffice without one of its positions."""
        if not is_count(position) or self._chosen is None or position not in self._chosen:
            raise InvalidCount(position)
        return self._failed_by([other for other in self._chosen if other != position])

    def failing(self):
        """The sorted list of the greatest sets that do not suffice for all queries, each with the first such query."""
        sets = [positions for positions in all_sets(len(self._offers)) if self._failed_by(positions) is not None]
        greatest = [positions for positions in sets if not any([is_smaller_part(positions, other) for other in sets])]
        return sorted([(positions, self._failed_by(positions)) for positions in greatest])

    def extended(self):
        """The catalog with the chosen indexes."""
        chosen = () if self._chosen is None else self._chosen
        return with_offers(self._catalog, [self._offers[position] for position in chosen])[0]


def check_columns(rules, order):
    """Raises InvalidOrder for the first entry with neither a column of the table nor coming."""
    for position, column in enumerate(order.columns):
        if column not in (*rules.names(), COMING):
            raise InvalidOrder(position)


def same_sort(rules, one, other):
    """Whether no let vector has different signs by two orders."""
    first, second = Order(one), Order(other)
    check_columns(rules, first)
    check_columns(rules, second)
    return all([first.sign(signs) == second.sign(signs) for signs in let_signs(rules)])


def folded_orders(rules, orders):
    """The sorted list of the groups of positions of orders that fold, each a sorted tuple."""
    listed = []
    for order in orders:
        listed.append(Order(order))
        check_columns(rules, listed[-1])
    let = let_signs(rules)
    groups = {}
    for position, order in enumerate(listed):
        whole = order.then([(COMING, "up")])
        groups.setdefault(tuple([whole.sign(signs) for signs in let]), []).append(position)
    return sorted([tuple(group) for group in groups.values()])


def foundation_of(catalog, query, plan):
    """The list of the rules, tuples (table, rule), on which it rests that a plan serves."""
    if not serves(catalog, query, plan):
        raise NotServing()
    for table, rule in reversed(rules_below(catalog, plan)):
        fewer = catalog.with_rules(table, catalog.rules_of(table).without(rule))
        catalog = fewer if serves(fewer, query, plan) else catalog
    return rules_below(catalog, plan)


def rules_below(catalog, plan):
    """The list of all rules of the tables of a plan, tuples (table, rule)."""
    return [(table, rule) for table in plan_tables(plan) for rule in catalog.rules_of(table).rules]
