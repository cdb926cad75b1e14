"""Plans of a query: their forms, their tables, and where they are wrong."""

from pairsigns.basics import is_integer
from pairsigns.classes import is_fixed, numbers_of_classes
from pairsigns.errors import InvalidPlan
from pairsigns.queries import check_fits, is_one_of
from pairsigns.references import reference_to, references_to
from pairsigns.signs import first_wrong_entry

# The number of parts of each kind of plan, its word included, and the positions of the plans inside.
PARTS = {"heap": 2, "index": 3, "sort": 3, "merge": 4, "seek": 5, "distinct": 2, "groups": 2, "first": 2}
INSIDE = {"heap": (), "index": (), "sort": (2,), "merge": (2, 3), "seek": (1,), "distinct": (1,), "groups": (1,),
          "first": (1,)}
RUNS = ("distinct", "groups")
MOST_ENTRIES = 8
MOST_PAIRS = 3
# How far up a plan reaches.
STREAM = 0
IN_RUNS = 1
SORTED_RUNS = 2
FIRST = 3


def has_plan_form(value):
    """Whether this is a tuple with one of the words and its number of parts."""
    if not isinstance(value, tuple) or len(value) == 0 or not isinstance(value[0], str):
        return False
    return value[0] in PARTS and len(value) == PARTS[value[0]]


def plans_inside(plan):
    """The list of the plans directly inside of a plan."""
    return [plan[position] for position in INSIDE[plan[0]]]


def level_of(plan):
    """How far up a plan of a query reaches."""
    if plan[0] == "first":
        return FIRST
    if plan[0] in RUNS:
        return IN_RUNS
    if plan[0] == "sort" and level_of(plan[2]) != STREAM:
        return SORTED_RUNS
    return STREAM


def stream_in(plan):
    """The stream below distinct, groups and first, of a plan or a shape."""
    return plan if level_of(plan) == STREAM else stream_in(plans_inside(plan)[0])


def plan_tables(plan):
    """The tuple of the tables of a plan or a shape."""
    if plan[0] in ("heap", "index"):
        return (plan[1],)
    inside = tuple([table for part in plans_inside(plan) for table in plan_tables(part)])
    return (*inside, plan[2]) if plan[0] == "seek" else inside


def is_stream(plan):
    """Whether a plan has no distinct, groups and first."""
    return level_of(plan) == STREAM


def is_whole(query, plan):
    """Whether a plan has all that its query asks for."""
    if len(plan_tables(plan)) != len(query.tables):
        return False
    if query.first is not None:
        return plan[0] == "first"
    return is_stream(plan) == (query.runs == "none")


def count_of(plan, word):
    """How many parts of a plan or a shape are of a kind."""
    inside = [count_of(part, word) for part in plans_inside(plan)]
    return sum(inside) + (1 if plan[0] == word else 0)


def work_of(plan):
    """The tuple of the number of sorts and the number of seeks, of a plan or a shape."""
    return (count_of(plan, "sort"), count_of(plan, "seek"))


def orders_of_pairs(pairs):
    """The entries by which a merge with these pairs asks its plan, and its other plan, to be sorted."""
    return (tuple([(first, direction) for first, _, direction in pairs]),
            tuple([(second, direction) for _, second, direction in pairs]))


def merge_wishes(plan):
    """The list of the tuples of a plan and the entries that a merge asks it to be sorted by, innermost first."""
    found = [wish for part in plans_inside(plan) for wish in merge_wishes(part)]
    if plan[0] != "merge":
        return found
    first, second = orders_of_pairs(plan[1])
    return [*found, (plan[2], first), (plan[3], second)]


def check_plan(catalog, query, plan):
    """Raises InvalidPlan for any value that is not a plan of the query."""
    check_fits(catalog, query)
    check_form(catalog, query, plan, 1)


def check_form(catalog, query, plan, least):
    """Raises InvalidPlan unless this is a plan, if the sorts of streams may have so few entries."""
    path = PlanCheck(catalog, query, least).fault(plan, ())
    if path is not None:
        raise InvalidPlan(path)


def orders_of_sorts(value):
    """The list of the orders of all sorts in a value of any kind, as far as it has the form of a plan."""
    if not has_plan_form(value):
        return []
    inside = [order for part in plans_inside(value) for order in orders_of_sorts(part)]
    return [value[1], *inside] if value[0] == "sort" else inside


def least_entries(value):
    """The least number of entries that the sorts of a plan must have, or of a shape, in which they have none."""
    return 0 if all([isinstance(order, tuple) and len(order) == 0 for order in orders_of_sorts(value)]) else 1


class PlanCheck:
    """What has to be known of a query to tell where a plan of it is wrong."""

    def __init__(self, catalog, query, least):
        self._catalog = catalog
        self._query = query
        self._least = least
        self._classes = numbers_of_classes(query)

    def fault(self, plan, path):
        """The path of the first wrong part of what stands at this path, or None."""
        if not has_plan_form(plan):
            return path
        for position in INSIDE[plan[0]]:
            found = self.fault(plan[position], (*path, position))
            if found is not None:
                return found
        return None if self._is_right(plan) else path

    def _is_right(self, plan):
        """Whether a tuple is right in which the plans inside are right."""
        word = plan[0]
        if word in ("heap", "index"):
            return self.is_read(plan)
        if word == "sort":
            return self.is_sort(plan[1], plan[2])
        if word == "first":
            return self._query.first is not None and plan[1][0] != "first" and self.is_ready(plan[1])
        if not is_stream(plans_inside(plan)[0]):
            return False
        parts = plan[1:]
        if word == "merge":
            return self.is_merge(*parts)
        if word == "seek":
            return self.is_seek(*parts)
        return word == self._query.runs and self.has_all_tables(plan[1])

    def is_read(self, plan):
        """Whether this reads a table of the query, by its places or by one of its indexes."""
        table = plan[1]
        if not is_one_of(table, self._query.tables):
            return False
        return plan[0] == "heap" or is_one_of(plan[2], self.indexes_of(table))

    def indexes_of(self, table):
        """The dict from the names of the indexes of a table to their orders."""
        return dict(self._catalog.indexes_of(table))

    def is_sort(self, order, plan):
        """Whether a plan can be sorted by these entries."""
        if not isinstance(order, tuple) or first_wrong_entry(order) is not None:
            return False
        level = level_of(plan)
        if level != STREAM:
            return level == IN_RUNS and len(order) > 0 and order == self._query.order.entries
        known = self.references_of(plan)
        return self._least <= len(order) <= MOST_ENTRIES and all([column in known for column, _ in order])

    def references_of(self, plan):
        """The list of the references to the tables of a plan."""
        return [reference for table in plan_tables(plan) for reference in references_to(self._query, table)]

    def class_number(self, reference):
        """The number of the class of a reference."""
        return self._classes[reference]

    def has_all_tables(self, plan):
        """Whether a plan has all tables of the query."""
        return len(plan_tables(plan)) == len(self._query.tables)

    def is_ready(self, plan):
        """Whether first can stand above a plan."""
        return self.has_all_tables(plan) and is_stream(plan) == (self._query.runs == "none")

    def is_merge(self, pairs, plan, other):
        """Whether a stream can be merged with another plan by these pairs."""
        if not is_stream(other) or len(plan_tables(other)) != 1 or plan_tables(other)[0] in plan_tables(plan):
            return False
        if not isinstance(pairs, tuple) or not 1 <= len(pairs) <= MOST_PAIRS:
            return False
        one, two = self.references_of(plan), self.references_of(other)
        if not all([self.is_pair(pair, one, two) for pair in pairs]):
            return False
        return len({self._classes[pair[0]] for pair in pairs}) == len(pairs)

    def is_pair(self, value, one, two):
        """Whether this is a tuple of a reference of each side, both of one class, and a direction."""
        if not isinstance(value, tuple) or len(value) != 3 or not is_one_of(value[2], ("up", "down")):
            return False
        if not is_one_of(value[0], one) or not is_one_of(value[1], two):
            return False
        return self._classes[value[0]] == self._classes[value[1]]

    def is_seek(self, plan, table, name, bound):
        """Whether the rows of a further table can be looked up by so many columns of an index."""
        tables = plan_tables(plan)
        if not is_one_of(table, self._query.tables) or table in tables or not self.are_joined(plan, table):
            return False
        if not is_one_of(name, self.indexes_of(table)) or not is_integer(bound):
            return False
        return 1 <= bound <= self.most_bound(plan, table, name)

    def are_joined(self, plan, table):
        """Whether some class has a reference to a table of the plan and one to this table."""
        known = [self._classes[reference] for reference in self.references_of(plan)]
        return any([self._classes[reference] in known for reference in references_to(self._query, table)])

    def most_bound(self, plan, table, name):
        """How many columns of an index of a table, from the first one on, are bound behind a plan."""
        known = [self._classes[reference] for reference in self.references_of(plan)]
        columns = [reference_to(table, column) for column in self.indexes_of(table)[name].columns]
        for position, reference in enumerate(columns):
            if self._classes[reference] not in known and not is_fixed(self._query, reference):
                return position
        return len(columns)
