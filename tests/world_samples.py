"""Worlds, and what the document says of them, written without the program."""

from itertools import combinations, product

from pairsigns.worlds import World
from tests.plan_samples import groups_of, things_in, value_in
from tests.query_samples import filter_holds
from tests.rule_samples import names, rows_break

MARKS = {1: [(0,)], 2: [(0, 0), (0, 1)], 3: [(0, 0, 0), (0, 0, 1), (0, 1, 0), (0, 1, 1), (0, 1, 2)]}


def weak_orders(size):
    return sorted({ranks for ranks in product(range(size), repeat=size) if set(ranks) == set(range(max(ranks) + 1))})


def mark_of(things):
    """The mark of rows that are made of these rows of a table."""
    found = []
    for thing in things:
        if thing not in found:
            found.append(thing)
    return tuple(found.index(thing) for thing in things)


def ranks_of(values):
    different = sorted(set(values))
    return tuple(different.index(value) for value in values)


def world_of_rows(database, query, tables, rows):
    """The world that describes rows of a stream, in the sequence in which they come."""
    marks = {table: mark_of([row[at] for row in rows]) for at, table in enumerate(tables)}
    ranks = {thing: ranks_of([value_in(database, tables, row, thing) for row in rows]) for thing in things_in(query, tables)}
    return World(len(rows), marks, ranks)


def room(query, group):
    """The number of values in the range of a class, but 3 if there are more."""
    asked = [(told, bound) for reference, told, bound in query.filters if reference in group]
    if any(isinstance(bound, str) for _, bound in asked):
        return 1 if len({bound for _, bound in asked}) == 1 else 0
    if not asked:
        return 3
    low, high = min(bound for _, bound in asked) - 5, max(bound for _, bound in asked) + 5
    return min(3, sum(all(filter_holds(value, told, bound) for told, bound in asked) for value in range(low, high + 1)))


def sign(ranks, one, other):
    return (ranks[one] > ranks[other]) - (ranks[one] < ranks[other])


def sign_by(ranks, entries, one, other):
    for thing, direction in entries:
        if sign(ranks[thing], one, other):
            return sign(ranks[thing], one, other) * (1 if direction == "up" else -1)
    return 0


def is_free(catalog, query, tables, size, marks, ranks):
    """Conditions 1 to 4 of [19], for marks and weak orders of the right form."""
    for table in tables:
        columns = catalog.rules_of(table).columns
        for one, other in combinations(range(size), 2):
            same = marks[table][one] == marks[table][other]
            signs = [sign(ranks[f"{table}.{name}"], one, other) for name in names(columns) + ("coming",)]
            if same and any(signs) or not same and not signs[-1]:
                return False
            if not same and any(rows_break(rule, *as_rows(columns, ranks, table, one, other)) for rule in catalog.rules_of(table).rules):
                return False
    for group in groups_of(query, tables):
        if len({ranks[reference] for reference in group}) > 1 or any(len(set(ranks[part])) > room(query, part_group(query, part)) for part in group):
            return False
    return True


def part_group(query, reference):
    """The whole class of a reference."""
    return next(group for group in groups_of(query) if reference in group)


def as_rows(columns, ranks, table, one, other):
    """Two rows of a table by names, with ranks instead of values."""
    things = names(columns) + ("coming",)
    return [{name: ranks[f"{table}.{name}"][at] for name in things} for at in (one, other)]


def is_of_stream(catalog, query, tables, entries, size, marks, ranks):
    return is_free(catalog, query, tables, size, marks, ranks) and all(
        sign_by(ranks, entries, one, other) == -1 for one, other in combinations(range(size), 2))


def all_forms(query, tables, size, one_by_class=False):
    """All marks and weak orders that worlds can have; if asked, only with equal ones for references of one class."""
    heads = {}
    for thing in things_in(query, tables):
        group = [group for group in groups_of(query, tables) if thing in group]
        heads.setdefault(min(group[0]) if group and one_by_class else thing, []).append(thing)
    for chosen in product(MARKS[size], repeat=len(tables)):
        for ranks in product(weak_orders(size), repeat=len(heads)):
            yield dict(zip(tables, chosen)), {thing: order for order, things in zip(ranks, heads.values()) for thing in things}


def worlds_by_definition(catalog, query, tables, entries, size):
    """All worlds of a stream, as tuples (marks, ranks)."""
    return [(marks, ranks) for marks, ranks in all_forms(query, tables, size, True)
            if is_of_stream(catalog, query, tables, entries, size, marks, ranks)]


def keeps_rules(database):
    """Whether the rows of all tables of a database keep the rules of its catalog."""
    for table in database.catalog.tables:
        rules = database.catalog.rules_of(table)
        rows = [dict(zip(names(rules.columns), [order_key(value) for value in row])) | {"coming": place} for place, row in database.rows(table)]
        for one, other in combinations(rows, 2):
            if any(rows_break(rule, one, other) for rule in rules.rules):
                return False
    return True


def order_key(value):
    """A value as a number, such that texts are in their sequence."""
    if not isinstance(value, str):
        return value
    return sum((ord(letter) - 96) * 30 ** (12 - at) for at, letter in enumerate(value))
