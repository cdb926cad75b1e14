"""The space of shapes of a query, and what serves it, written without the program."""

from itertools import permutations, product

from pairsigns.questions import ask
from pairsigns.streams import Stream
from tests.plan_samples import DIRECTIONS, linked, most_bound, parts_of_plan, references_to, sequences, tables_in


def shapes_by_definition(catalog, query):
    """All shapes of the space of a query."""
    found = []
    for tables in sequences(query):
        streams = with_sorts(reads(catalog, tables[0]))
        for at, table in list(enumerate(tables))[1:]:
            streams = with_sorts([longer for plan in streams for longer in added(catalog, query, plan, tables[:at], table)])
        found += [shape for stream in streams for shape in tops(query, stream)]
    return found


def reads(catalog, table):
    return [("heap", table)] + [("index", table, name) for name, _ in catalog.indexes_of(table)]


def with_sorts(plans):
    return plans + [("sort", (), plan) for plan in plans]


def added(catalog, query, plan, tables, table):
    found = []
    for pairs in pair_choices(query, tables, table):
        found += [("merge", pairs, plan, other) for other in with_sorts(reads(catalog, table))]
    for name, _ in catalog.indexes_of(table):
        most = most_bound(catalog, query, tables, table, name)
        if most:
            found.append(("seek", plan, table, name, most))
    return found


def pair_choices(query, tables, table):
    groups = linked(query, tables, table)
    known = [reference for taken in tables for reference in references_to(query, taken)]
    ends = [(next(part for part in known if part in group), next(part for part in references_to(query, table) if part in group)) for group in groups]
    found = []
    for many in (1, 2):
        for chosen in permutations(ends, many):
            found += [tuple(end + (direction,) for end, direction in zip(chosen, directions)) for directions in product(DIRECTIONS, repeat=many)]
    return found


def tops(query, stream):
    found = [stream]
    if query.runs != "none":
        found = [(query.runs, stream)]
        if len(query.order):
            found.append(("sort", query.order.entries, (query.runs, stream)))
    return found if query.first is None else [("first", plan) for plan in found]


def below(plan):
    """The stream below distinct, groups and first."""
    while plan[0] in ("first", "distinct", "groups") or (plan[0] == "sort" and plan[2][0] in ("distinct", "groups")):
        plan = plan[-1]
    return plan


def wished(query, plan):
    """The wishes of a whole plan or a shape, as tuples of a plan and entries."""
    found = []
    for _, part in parts_of_plan(plan):
        if part[0] == "merge":
            found.append((part[2], tuple((one, direction) for one, _, direction in part[1])))
            found.append((part[3], tuple((two, direction) for _, two, direction in part[1])))
    if query.runs == "none" and len(query.order):
        found.append((below(plan), query.order.entries))
    return found


def serves_by_answers(catalog, query, plan):
    """Whether a whole plan serves, by the answers to all of its questions."""
    asked = [(part, ("sorted", order)) for part, order in wished(query, plan)]
    if query.runs != "none":
        asked.append((below(plan), ("together", query.wanted)))
        if not has_sort_above(plan):
            asked.append((below(plan), ("sorted", query.order.entries)))
    return all([bool(ask(Stream(catalog, query, part), question)) for part, question in asked])


def has_sort_above(plan):
    inside = plan[1] if plan[0] == "first" else plan
    return inside[0] == "sort" and inside[2][0] in ("distinct", "groups")


def counts_by_answers(catalog, query, plan):
    """Whether a whole plan serves, and with sorts below runs is sorted by some order of all wanted references."""
    if not serves_by_answers(catalog, query, plan):
        return False
    stream = below(plan)
    if query.runs == "none" or not [part for _, part in parts_of_plan(stream) if part[0] == "sort"]:
        return True
    asked = Stream(catalog, query, stream)
    return any(ask(asked, ("sorted", tuple(zip(chosen, directions)))) for chosen in permutations(query.wanted)
               for directions in product(DIRECTIONS, repeat=len(chosen)))


def all_orders(references):
    """All orders of one entry or more by these references."""
    return [tuple(zip(chosen, directions)) for many in range(1, len(references) + 1) for chosen in permutations(references, many)
            for directions in product(DIRECTIONS, repeat=many)]


def fillings_by_definition(query, plan):
    """All plans that fill a stream with empty sorts."""
    if plan[0] in ("heap", "index"):
        return [plan]
    if plan[0] == "sort":
        references = [reference for table in tables_in(plan) for reference in references_to(query, table)]
        return [("sort", order, inside) for order in all_orders(references) for inside in fillings_by_definition(query, plan[2])]
    if plan[0] == "seek":
        return [("seek", inside) + plan[2:] for inside in fillings_by_definition(query, plan[1])]
    return [("merge", plan[1], inside, other) for inside in fillings_by_definition(query, plan[2]) for other in fillings_by_definition(query, plan[3])]


def is_filled(shape, plan):
    """Whether a plan is a shape with other orders at its empty sorts."""
    if isinstance(shape, tuple) and isinstance(plan, tuple) and shape[:2] == ("sort", ()):
        return plan[0] == "sort" and 1 <= len(plan[1]) <= 8 and is_filled(shape[2], plan[2])
    if not isinstance(shape, tuple):
        return shape == plan and type(shape) is type(plan)
    return isinstance(plan, tuple) and len(shape) == len(plan) and all(is_filled(one, other) for one, other in zip(shape, plan))
