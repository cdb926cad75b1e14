"""Catalogs, queries, plans and databases, made by chance, and what the document says of them, written without the program."""

from itertools import combinations, permutations, product

from pairsigns.errors import InvalidQuery, RuleBroken
from pairsigns.queries import Query
from pairsigns.rules import Rules
from pairsigns.tables import Catalog, Database
from tests.query_samples import filter_holds
from tests.rule_samples import determines_rules, key_rules, names, never_rules, orders_over

N, T = "number", "text"
COLUMNS = {"r": (("a", N), ("b", N), ("c", T)), "s": (("b", N), ("d", N)), "t": (("d", N), ("e", T))}
DIRECTIONS = ("up", "down")


def catalog_of(rules=None, indexes=None):
    """The tables r, s and t, with these rules and indexes by table."""
    chosen = {"r": [("by", [("b", "up"), ("a", "down")]), ("ca", [("c", "up")])], "s": [("bd", [("b", "up"), ("d", "up")])],
              "t": [("de", [("d", "down"), ("e", "up")])]} | (indexes or {})
    return Catalog([(table, Rules(columns, (rules or {}).get(table, ())), chosen[table]) for table, columns in COLUMNS.items()])


def query_of(tables=("r", "s", "t"), catalog=None, **changed):
    """A query over these tables, r and s joined by b, s and t by d."""
    joins = [pair for pair in (("r.b", "s.b"), ("s.d", "t.d")) if all(part.split(".")[0] in tables for part in pair)]
    parts = {"equalities": joins, "wanted": (f"{tables[0]}.{COLUMNS[tables[0]][0][0]}",)} | changed
    return Query(catalog or catalog_of(), tables, **parts)


def random_rules(dice, columns, many):
    found = []
    for _ in range(many):
        kind = dice.choice(("key", "determines", "orders", "orders", "never"))
        if kind == "orders":
            sides = orders_over(names(columns) + ("coming",))
            rule = ("orders", dice.choice(sides), dice.choice(sides))
        else:
            rule = dice.choice({"key": key_rules, "determines": determines_rules, "never": never_rules}[kind](columns) or key_rules(columns))
        if rule not in found:
            found.append(rule)
    return found


def random_catalog(dice, most_tables=3, most_columns=(3, 2, 2), most_rules=3):
    found = []
    for table, most in list(zip("rst", most_columns))[:dice.randint(1, most_tables)]:
        columns = tuple((name, dice.choice((N, N, T))) for name in "abcd"[:dice.randint(1, most)])
        indexes = []
        for name in ("ia", "ib")[:dice.randint(0, 2)]:
            chosen = dice.sample(names(columns), dice.randint(1, min(3, len(columns))))
            indexes.append((name, [(column, dice.choice(DIRECTIONS)) for column in chosen]))
        found.append((table, Rules(columns, random_rules(dice, columns, dice.randint(0, most_rules))), indexes))
    return Catalog(found)


def kinds_of(catalog):
    return {f"{table}.{name}": kind for table in catalog.tables for name, kind in catalog.rules_of(table).columns}


def random_query(dice, catalog, runs=("none", "none", "distinct", "groups")):
    """A query over all tables of the catalog, or None if they cannot be connected."""
    kinds = kinds_of(catalog)
    equalities = []
    for at in range(1, len(catalog.tables)):
        possible = [(one, other) for one, other in product(kinds, repeat=2) if kinds[one] == kinds[other]
                    and table_of(one) in catalog.tables[:at] and table_of(other) == catalog.tables[at]]
        if not possible:
            return None
        equalities.append(dice.choice(possible))
    possible = [(one, other) for one, other in combinations(kinds, 2) if kinds[one] == kinds[other]]
    equalities += [dice.choice(possible) for _ in range(dice.choice((0, 0, 1))) if possible]
    wanted = tuple(dice.sample(list(kinds), dice.randint(1, min(3, len(kinds)))))
    order = [(column, dice.choice(DIRECTIONS)) for column in dice.sample(wanted, dice.randint(0, len(wanted)))]
    try:
        return Query(catalog, catalog.tables, equalities=equalities, filters=random_filters(dice, kinds), wanted=wanted,
                     runs=dice.choice(runs), order=order, first=dice.choice((None, None, 1, 3)))
    except InvalidQuery:
        return None


def random_filters(dice, kinds):
    found = []
    for reference in [dice.choice(list(kinds)) for _ in range(dice.choice((0, 0, 0, 1, 2)))]:
        number = kinds[reference] == N
        found.append((reference, dice.choice(("=", "<", "<=", ">", ">=")) if number else "=", dice.randint(0, 2) if number else dice.choice("xy")))
    return found


def random_setting(dice, runs=("none", "none", "distinct", "groups"), **limits):
    """A catalog and a query."""
    while True:
        catalog = random_catalog(dice, **limits)
        query = random_query(dice, catalog, runs)
        if query is not None:
            return catalog, query


def random_database(dice, catalog, many=6):
    """Rows that keep the rules; some are removed again."""
    database = Database(catalog)
    for table in catalog.tables:
        columns = catalog.rules_of(table).columns
        for _ in range(dice.choice((0, 1, many, many, 2 * many, 3 * many))):
            try:
                database.insert(table, [dice.randint(0, 2) if kind == N else dice.choice("xy") for _, kind in columns])
            except RuleBroken:
                pass
        for place, _ in database.rows(table):
            if dice.random() < 0.1:
                database.remove(table, place)
    return database


def table_of(thing):
    return thing.split(".")[0]


def references_to(query, table):
    return [f"{table}.{name}" for name, _ in query.columns_of(table)]


def groups_of(query, tables=None):
    """The classes of the query, those references of each that are of these tables."""
    groups = [{reference} for table in query.tables for reference in references_to(query, table)]
    for one, other in query.equalities:
        first = next(group for group in groups if one in group)
        second = next(group for group in groups if other in group)
        if first is not second:
            groups.remove(second)
            first |= second
    kept = [{reference for reference in group if tables is None or table_of(reference) in tables} for group in groups]
    return [group for group in kept if group]


def tables_in(plan):
    """The tables of a plan or shape, in sequence."""
    if plan[0] in ("heap", "index"):
        return (plan[1],)
    if plan[0] == "merge":
        return tables_in(plan[2]) + tables_in(plan[3])
    return tables_in(plan[1]) + (plan[2],) if plan[0] == "seek" else tables_in(plan[-1])


def things_in(query, tables):
    return [thing for table in tables for thing in (*references_to(query, table), f"{table}.coming")]


def list_of(catalog, plan):
    """The list of a stream, a list of entries."""
    if plan[0] == "heap":
        found = [(f"{plan[1]}.coming", "up")]
    elif plan[0] == "index":
        order = dict(catalog.indexes_of(plan[1]))[plan[2]]
        found = [(f"{plan[1]}.{column}", direction) for column, direction in order.entries] + [(f"{plan[1]}.coming", "up")]
    elif plan[0] == "sort":
        found = list(plan[1]) + list_of(catalog, plan[2])
    elif plan[0] == "merge":
        found = list_of(catalog, plan[2]) + list_of(catalog, plan[3])
    else:
        found = list_of(catalog, plan[1]) + list_of(catalog, ("index", plan[2], plan[3]))
    return [entry for at, entry in enumerate(found) if entry[0] not in [column for column, _ in found[:at]]]


def value_in(database, tables, row, thing):
    """The value of a row of a stream in a thing: for coming the place."""
    table, name = thing.split(".")
    place = row[tables.index(table)]
    if name == "coming":
        return place
    return database.row(table, place)[names(database.catalog.rules_of(table).columns).index(name)]


def sign(one, other):
    return (one > other) - (one < other)


def sign_by(database, tables, entries, one, other):
    """The sign of two rows of a stream by an order."""
    for thing, direction in entries:
        found = sign(value_in(database, tables, one, thing), value_in(database, tables, other, thing))
        if found:
            return found if direction == "up" else -found
    return 0


def fits_alone(database, query, table, place):
    """Whether a row of a table fits by itself: by the filters on all references of the classes of its columns."""
    for group in groups_of(query):
        values = [value_in(database, (table,), (place,), reference) for reference in group if table_of(reference) == table]
        if len(set(values)) > 1:
            return False
        if values and not all(filter_holds(values[0], told, bound) for reference, told, bound in query.filters if reference in group):
            return False
    return True


def rows_of_table(database, query, table, name=None):
    places = [place for place, _ in database.rows(table)] if name is None else database.sequence(table, name)
    return [(place,) for place in places if fits_alone(database, query, table, place)]


def joined(database, query, tables, rows, table, others):
    found = []
    for row, other in product(rows, others):
        whole = row + other
        if all(len({value_in(database, tables + (table,), whole, reference) for reference in group}) == 1
               for group in groups_of(query, tables + (table,))):
            found.append(whole)
    return found


def sorted_rows(database, tables, entries, rows):
    for column, direction in reversed(entries):
        rows = sorted(rows, key=lambda row: value_in(database, tables, row, column), reverse=direction == "down")
    return rows


def stream_rows(database, query, plan):
    """The rows of a stream, as [17] says it."""
    if plan[0] in ("heap", "index"):
        return rows_of_table(database, query, *plan[1:])
    if plan[0] == "sort":
        return sorted_rows(database, tables_in(plan), plan[1], stream_rows(database, query, plan[2]))
    inside = plan[2] if plan[0] == "merge" else plan[1]
    others = stream_rows(database, query, plan[3]) if plan[0] == "merge" else rows_of_table(database, query, plan[2], plan[3])
    return joined(database, query, tables_in(inside), stream_rows(database, query, inside), tables_in(plan)[-1], others)


def linked(query, tables, table):
    """The groups that have references both to the tables and to the table."""
    return [group for group in groups_of(query) if any(table_of(part) in tables for part in group)
            and any(table_of(part) == table for part in group)]


def sequences(query):
    """The sequences of the tables in which each further one has a class with an earlier one."""
    return [tables for tables in permutations(query.tables)
            if all(linked(query, tables[:at], tables[at]) for at in range(1, len(tables)))]


def most_bound(catalog, query, tables, table, name):
    """How many columns of an index are bound, from the first one on."""
    many = 0
    for column in dict(catalog.indexes_of(table))[name].columns:
        group = next(group for group in groups_of(query) if f"{table}.{column}" in group)
        if not any(table_of(part) in tables for part in group) and not has_one_value(query, group):
            break
        many += 1
    return many


def has_one_value(query, group):
    """Whether the filters on a class leave just one value, of all near those that they name."""
    asked = [(told, bound) for reference, told, bound in query.filters if reference in group]
    if not asked:
        return False
    if isinstance(asked[0][1], str):
        return len({bound for _, bound in asked}) == 1
    # If a number far outside fits, there is no bound on that side, and so more than one.
    near = range(min(bound for _, bound in asked) - 2, max(bound for _, bound in asked) + 3)
    return sum(all(filter_holds(value, told, bound) for told, bound in asked) for value in near) == 1


def random_sort(dice, query, plan, chance):
    if dice.random() >= chance:
        return plan
    references = [reference for table in tables_in(plan) for reference in references_to(query, table)]
    chosen = dice.sample(references, dice.randint(1, min(3, len(references))))
    return ("sort", tuple((column, dice.choice(DIRECTIONS)) for column in chosen), plan)


def random_read(dice, catalog, table):
    return dice.choice([("heap", table), *[("index", table, name) for name, _ in catalog.indexes_of(table)]])


def random_stream(dice, catalog, query, tables=None):
    """A stream with all tables of the query, often with sorts that make its merges possible."""
    tables = tables or dice.choice(sequences(query))
    plan = random_sort(dice, query, random_read(dice, catalog, tables[0]), 0.4)
    for at, table in list(enumerate(tables))[1:]:
        seeks = [(name, most_bound(catalog, query, tables[:at], table, name)) for name, _ in catalog.indexes_of(table)]
        seeks = [(name, most) for name, most in seeks if most]
        if seeks and dice.random() < 0.4:
            name, most = dice.choice(seeks)
            plan = ("seek", plan, table, name, dice.randint(1, most))
        else:
            plan = random_merge(dice, catalog, query, plan, table)
        plan = random_sort(dice, query, plan, 0.3)
    return plan


def random_merge(dice, catalog, query, plan, table):
    groups = [sorted(group) for group in linked(query, tables_in(plan), table)]
    pairs = []
    for group in dice.sample(groups, dice.randint(1, min(2, len(groups)))):
        one = dice.choice([part for part in group if table_of(part) in tables_in(plan)])
        pairs.append((one, dice.choice([part for part in group if table_of(part) == table]), dice.choice(DIRECTIONS)))
    other = random_read(dice, catalog, table)
    if dice.random() < 0.7:
        plan = ("sort", tuple((one, direction) for one, _, direction in pairs), plan)
    if dice.random() < 0.7:
        other = ("sort", tuple((two, direction) for _, two, direction in pairs), other)
    return ("merge", tuple(pairs), plan, random_sort(dice, query, other, 0.1))


def random_whole_plan(dice, catalog, query):
    """A plan that is whole."""
    plan = random_stream(dice, catalog, query)
    if query.runs != "none":
        if dice.random() < 0.5:
            plan = ("sort", tuple((column, dice.choice(DIRECTIONS)) for column in query.wanted), plan)
        plan = (query.runs, plan)
        if len(query.order) and dice.random() < 0.6:
            plan = ("sort", query.order.entries, plan)
    return plan if query.first is None else ("first", plan)


def parts_of_plan(plan, path=()):
    """All plans in a plan with their paths: those inside first, left before right."""
    found = []
    for position in {"sort": (2,), "merge": (2, 3), "seek": (1,), "distinct": (1,), "groups": (1,), "first": (1,)}.get(plan[0], ()):
        found += parts_of_plan(plan[position], path + (position,))
    return found + [(path, plan)]
