"""Texts of tables, indexes, queries and plans, and reading them."""

from pairsigns.basics import is_name
from pairsigns.errors import InvalidQuery, InvalidText, UnknownName
from pairsigns.queries import Query, is_one_of
from pairsigns.rules import Rules, is_columns, read_rule, rule_text
from pairsigns.signs import Order, entries_text, read_entries
from pairsigns.tables import is_index_order
from pairsigns.valuetexts import read_number, read_value, value_text


def listed_text(texts):
    """The text of things in a sequence."""
    return ", ".join(texts)


def read_list(text):
    """The tuple of the texts of things in a sequence; () for the empty text."""
    return () if text == "" else tuple(text.split(", "))


def table_text(catalog, table):
    """The text of a table with its rules."""
    return text_of_table(table, catalog.rules_of(table))


def text_of_table(name, rules):
    """The text of a table with this name and these Rules."""
    columns = listed_text([f"{column} {kind}" for column, kind in rules.columns])
    return "; ".join([f"table {name}: {columns}", *[rule_text(rule) for rule in rules.rules]])


def read_table(text):
    """The tuple of the name and the Rules of the table with this text."""
    found = table_with_text(text) if isinstance(text, str) else None
    if found is None:
        raise InvalidText(text)
    return found


def table_with_text(text):
    """The tuple of the name and the Rules of the table with this text, or None."""
    found = likely_table(text)
    return found if found is not None and text_of_table(*found) == text else None


def likely_table(text):
    """The only table that could have this text, a tuple of a name and Rules, or None."""
    head, *listed = text.split("; ")
    begun, _, columns_text = head.partition(": ")
    name = begun.removeprefix("table ")
    columns = tuple([(column, kind) for column, _, kind in [part.partition(" ") for part in read_list(columns_text)]])
    if not is_name(name) or not is_columns(columns) or len(listed) > Rules.MAX_RULES:
        return None
    rules = likely_rules(columns, listed)
    return None if rules is None else (name, Rules(columns, rules))


def likely_rules(columns, texts):
    """The list of the different rules that have these texts, or None."""
    try:
        rules = [read_rule(columns, text) for text in texts]
    except InvalidText:
        return None
    return rules if len(set(texts)) == len(texts) else None


def index_text(catalog, table, name):
    """The text of an index of a table."""
    orders = dict(catalog.indexes_of(table))
    if not is_one_of(name, orders):
        raise UnknownName(name)
    return text_of_index(table, name, orders[name])


def text_of_index(table, name, order):
    """The text of an index with this name and this Order."""
    return f"index {name} on {table}: {entries_text(order.entries)}"


def read_index(catalog, text):
    """The tuple of the table, the name and the Order of the index with this text."""
    found = index_with_text(catalog, text) if isinstance(text, str) else None
    if found is None:
        raise InvalidText(text)
    return found


def index_with_text(catalog, text):
    """The tuple of the table, the name and the Order of the index with this text, or None."""
    found = likely_index(catalog, text)
    return found if found is not None and text_of_index(*found) == text else None


def likely_index(catalog, text):
    """The only index that could have this text, a tuple of a table, a name and an Order, or None."""
    begun, _, order_text = text.partition(": ")
    name, _, table = begun.removeprefix("index ").partition(" on ")
    entries = read_entries(order_text)
    if not is_name(name) or table not in catalog.tables:
        return None
    return (table, name, Order(entries)) if is_index_order(catalog.rules_of(table).names(), entries) else None


def query_text(query):
    """The text of a query."""
    conditions = [f"{one} = {other}" for one, other in query.equalities]
    conditions.extend([f"{reference} {sign} {value_text(value)}" for reference, sign, value in query.filters])
    parts = [f"from {listed_text(query.tables)}"]
    if len(conditions) > 0:
        parts.append(f"where {listed_text(conditions)}")
    parts.append(f"want {listed_text(query.wanted)}")
    if query.runs != "none":
        parts.append(query.runs)
    if len(query.order) > 0:
        parts.append(f"order {entries_text(query.order.entries)}")
    if query.first is not None:
        parts.append(f"first {query.first}")
    return "; ".join(parts)


def read_query(catalog, text):
    """The Query of the catalog with this text."""
    query = likely_query(catalog, text) if isinstance(text, str) else None
    if query is None or query_text(query) != text:
        raise InvalidText(text)
    return query


def likely_query(catalog, text):
    """The only Query of the catalog that could have this text, or None."""
    parts = {word: rest for word, _, rest in [part.partition(" ") for part in text.split("; ")]}
    conditions = [read_condition(part) for part in read_list(parts.get("where", ""))]
    runs = [word for word in ("distinct", "groups") if word in parts]
    try:
        return Query(catalog, read_list(parts.get("from", "")),
                     equalities=[condition for condition in conditions if len(condition) == 2],
                     filters=[condition for condition in conditions if len(condition) != 2],
                     wanted=read_list(parts.get("want", "")), runs=runs[0] if len(runs) > 0 else "none",
                     order=read_entries(parts.get("order", "none")), first=read_number(parts.get("first", "")))
    except InvalidQuery:
        return None


def read_condition(text):
    """The equality or the filter that could have this text, a tuple; whether it is one is not looked at."""
    words = text.split(" ")
    if len(words) != 3:
        return ()
    one, sign, other = words
    # The texts of values have no point, those of references have one.
    return (one, other) if sign == "=" and "." in other else (one, sign, read_value(other))


def plan_text(plan):
    """The text of a plan or a shape."""
    word = plan[0]
    if word == "heap":
        return f"heap({plan[1]})"
    if word == "index":
        return f"index({plan[1]}, {plan[2]})"
    if word == "sort":
        return f"sort({entries_text(plan[1])}; {plan_text(plan[2])})"
    if word == "merge":
        return f"merge({pairs_text(plan[1])}; {plan_text(plan[2])}; {plan_text(plan[3])})"
    if word == "seek":
        return f"seek({plan_text(plan[1])}; {plan[2]}, {plan[3]}, {plan[4]})"
    return f"{word}({plan_text(plan[1])})"


def pairs_text(pairs):
    """The text of the pairs of a merge."""
    return listed_text([entries_text([(f"{one} = {other}", direction)]) for one, other, direction in pairs])
