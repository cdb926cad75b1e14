"""A catalog with four tables, queries over it, and what the document says of them, written without the program."""

from itertools import product

from pairsigns.queries import Query
from pairsigns.rules import Rules
from pairsigns.tables import Catalog, Database

COLUMNS = {
    "r": (("a", "number"), ("b", "number"), ("c", "text")),
    "s": (("b", "number"), ("d", "text")),
    "t": (("a", "number"), ("e", "number")),
    "alone": (("a", "text"),),
}
REFERENCES = [f"{table}.{name}" for table in ("r", "s", "t") for name, _ in COLUMNS[table]]
KINDS = {f"{table}.{name}": kind for table, columns in COLUMNS.items() for name, kind in columns}
JOINS = (("r.b", "s.b"), ("s.b", "t.e"))


def catalog_of(columns=None):
    return Catalog([(table, Rules(listed), []) for table, listed in (columns or COLUMNS).items()])


def parts(**changed):
    """The parts of a query over three tables, as they are passed."""
    return {"equalities": list(JOINS), "filters": [("r.a", "<=", 5), ("s.d", "=", "x")], "wanted": ("r.a", "t.e", "s.d"),
            "runs": "distinct", "order": [("s.d", "up"), ("r.a", "down")], "first": 10} | changed


def query_of(tables=("r", "s", "t"), **changed):
    return Query(catalog_of(), tables, **parts(**changed))


def simple(tables=("r",), wanted=("r.a",), **changed):
    """A query with nothing but what it must have."""
    return Query(catalog_of(), tables, wanted=wanted, **changed)


def random_database(dice, many, numbers=(0, 1, 2), texts=("", "x", "y")):
    """Rows for r, s and t, mostly as many as that for each, some of them removed again."""
    database = Database(catalog_of())
    for table in ("r", "s", "t"):
        for _ in range(dice.choice((0, 1, many, many, many, many, many))):
            database.insert(table, [dice.choice(numbers if kind == "number" else texts) for _, kind in COLUMNS[table]])
        for place, _ in database.rows(table):
            if dice.random() < 0.2:
                database.remove(table, place)
    return database


def random_query(dice):
    """A query over tables that are connected in one of several ways."""
    tables = tuple(dice.sample(("r", "s", "t"), dice.randint(1, 3)))
    references = [reference for reference in REFERENCES if reference.split(".")[0] in tables]
    filters = []
    for _ in range(dice.choice((0, 0, 0, 1, 2, 3))):
        reference = dice.choice(references)
        number = KINDS[reference] == "number"
        filters.append((reference, dice.choice(("=", "<", "<=", ">", ">=")) if number else "=",
                        dice.randint(0, 2) if number else dice.choice(("", "x", "y"))))
    runs = dice.choice(("none", "distinct", "groups"))
    wanted = tuple(dice.sample(references, dice.randint(1, min(3, len(references)))))
    order = [(column, dice.choice(("up", "down"))) for column in dice.sample(wanted, dice.randint(0, len(wanted)))]
    return Query(catalog_of(), tables, equalities=random_equalities(dice, tables, references), filters=filters, wanted=wanted,
                 runs=runs, order=order, first=dice.choice((None, None, 1, 2, 4, 1000)))


def random_equalities(dice, tables, references):
    """Equalities that connect the tables, and perhaps some more of any kind."""
    def links(one, others):
        return [(one_end, other_end) for one_end, other_end in product(references, repeat=2) if one_end != other_end
                and KINDS[one_end] == KINDS[other_end] and one_end.split(".")[0] in one and other_end.split(".")[0] in others]
    found = [dice.choice(links(tables[:at], [tables[at]])) for at in range(1, len(tables))]
    possible = links(tables, tables)
    found += [dice.choice(possible) for _ in range(dice.choice((0, 0, 0, 1, 2))) if possible]
    dice.shuffle(found)
    return [pair[::dice.choice((1, -1))] for pair in found]


def value_of(database, query, places, reference):
    table, name = reference.split(".")
    row = database.row(table, places[query.tables.index(table)])
    return row[[column for column, _ in COLUMNS[table]].index(name)]


def filter_holds(value, sign, bound):
    return {"=": value == bound, "<": value < bound, "<=": value <= bound, ">": value > bound, ">=": value >= bound}[sign]


def fitting(database, query):
    """All fitting combinations, found by trying all rows of all tables."""
    found = []
    for places in product(*[[place for place, _ in database.rows(table)] for table in query.tables]):
        def value(reference):
            return value_of(database, query, places, reference)
        if all(value(one) == value(other) for one, other in query.equalities) and all(
                filter_holds(value(reference), sign, bound) for reference, sign, bound in query.filters):
            found.append(places)
    return found


def output(database, query):
    """The output, sorted."""
    rows = [tuple(value_of(database, query, places, reference) for reference in query.wanted)
            for places in fitting(database, query)]
    if query.runs == "none":
        return sorted(rows)
    return sorted(row if query.runs == "distinct" else row + (rows.count(row),) for row in set(rows))
