"""All rules for a few columns, and what the document says of them, written without the program."""

from itertools import combinations, permutations, product

from tests.samples import SIGNS

ONE = (("a", "number"),)
TWO = (("a", "number"), ("b", "text"))
BACK = (("b", "text"), ("a", "number"))
THREE = (("x", "text"), ("a", "number"), ("m", "number"))
FOUR = (("d", "number"), ("c", "text"), ("b", "number"), ("abcdefgh", "number"))
ALL_COLUMNS = (ONE, TWO, BACK, THREE, FOUR)


def names(columns):
    return tuple(name for name, _ in columns)


def parts_of(things):
    """All tuples of different ones of the things, in their sequence."""
    return [chosen for many in range(len(things) + 1) for chosen in combinations(things, many)]


def orders_over(things):
    """All tuples of one to four entries."""
    return [tuple(zip(chosen, directions))
            for many in range(1, min(len(things), 4) + 1)
            for chosen in permutations(things, many)
            for directions in product(("up", "down"), repeat=many)]


def key_rules(columns):
    return [("key", chosen) for chosen in parts_of(names(columns))]


def determines_rules(columns):
    return [("determines", chosen, column)
            for chosen in parts_of(names(columns)) for column in names(columns) if column not in chosen]


def orders_rules(columns):
    sides = orders_over(names(columns) + ("coming",))
    return [("orders", first, second) for first in sides for second in sides]


def never_rules(columns):
    return [("never", tuple(zip(chosen, signs)))
            for chosen in parts_of(names(columns) + ("coming",)) if chosen
            for signs in product(SIGNS, repeat=len(chosen)) if chosen[-1] != "coming" or signs[-1] != 0]


def all_rules(columns):
    return key_rules(columns) + determines_rules(columns) + orders_rules(columns) + never_rules(columns)


def some_rules(columns):
    """Rules of every kind, but fewer with orders."""
    sides = orders_over(names(columns) + ("coming",))
    few = sides[::max(1, len(sides) // 23)]
    orders = [("orders", first, second) for first in few for second in few]
    return key_rules(columns) + determines_rules(columns) + orders + never_rules(columns)


def rows_with(columns, vector):
    """Two rows, dicts by name with the place as coming, that have this vector."""
    things = names(columns) + ("coming",)
    return ({thing: 5 for thing in things}, {thing: 5 - sign for thing, sign in zip(things, vector, strict=True)})


def sorting_key(entries, row):
    return [row[column] if direction == "up" else -row[column] for column, direction in entries]


def is_ahead_or_alike(entries, one, other):
    return sorting_key(entries, one) <= sorting_key(entries, other)


def rows_break(rule, one, other):
    """Whether the two rows break the rule, as [9] says it of rows."""
    return one_way_breaks(rule, one, other) or one_way_breaks(rule, other, one)


def one_way_breaks(rule, one, other):
    if rule[0] == "key":
        return all(one[column] == other[column] for column in rule[1])
    if rule[0] == "determines":
        return all(one[column] == other[column] for column in rule[1]) and one[rule[2]] != other[rule[2]]
    if rule[0] == "orders":
        return is_ahead_or_alike(rule[1], one, other) and not is_ahead_or_alike(rule[2], one, other)
    return all((one[column] > other[column]) - (one[column] < other[column]) == sign for column, sign in rule[1])


def order_words(entries):
    return ", ".join(column if direction == "up" else f"{column} down" for column, direction in entries)


def text_of(rule):
    """The text of a rule as [9] shows it."""
    if rule[0] == "key":
        return "key" + "".join(f" {column}" for column in rule[1])
    if rule[0] == "determines":
        return "".join(f"{column} " for column in rule[1]) + f"-> {rule[2]}"
    if rule[0] == "orders":
        return f"{order_words(rule[1])} orders {order_words(rule[2])}"
    return "never" + "".join(f" {column}" + {-1: "-", 0: "0", 1: "+"}[sign] for column, sign in rule[1])


def spoilt(value, others):
    """All values that differ from a nested tuple in one part: replaced, taken out, or put in a list."""
    for other in others:
        yield other
    if isinstance(value, tuple):
        yield list(value)
        for at in range(len(value)):
            yield value[:at] + value[at + 1:]
            yield value[:at] + (value[at],) + value[at:]
            for part in spoilt(value[at], others):
                yield value[:at] + (part,) + value[at + 1:]
