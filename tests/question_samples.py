"""Questions about streams, and what the document says of them, written without the program."""

from itertools import combinations

from tests.plan_samples import DIRECTIONS, sign_by, stream_rows, tables_in, value_in
from tests.world_samples import sign
from tests.world_samples import sign_by as world_sign_by

SIZES = {"empty": 1, "together": 3}
KINDS = ("sorted", "key", "determines", "constant", "single", "empty", "together")


def size_of(question):
    return SIZES.get(question[0], 2)


def random_question(dice, things, kind=None):
    kind = kind or dice.choice(KINDS)
    some = tuple(dice.sample(things, dice.randint(0, min(3, len(things)))))
    if kind == "sorted":
        return ("sorted", tuple((thing, dice.choice(DIRECTIONS)) for thing in some))
    if kind == "determines":
        return ("determines", some, dice.choice(things))
    return {"constant": ("constant", dice.choice(things)), "single": ("single",), "empty": ("empty",)}.get(kind, (kind, some))


def likely_question(dice, things, entries):
    """A question that is often answered with yes: about the first things of the list."""
    begun = tuple(entries[:min(8, dice.randint(1, len(entries)))])
    columns = tuple(dice.sample([column for column, _ in begun], len(begun)))
    if dice.random() < 0.3:
        columns = columns[1:] + tuple(thing for thing in things if thing.endswith("coming") and thing not in columns[1:])
    return dice.choice([("sorted", begun), ("sorted", begun[1:]), ("key", columns), ("together", columns), ("together", columns[:1]),
                        ("determines", columns, dice.choice(things)), ("constant", columns[0])])


def holds(database, query, plan, question):
    """Whether it is so, for the rows of a stream over a database."""
    rows, tables = stream_rows(database, query, plan), tables_in(plan)

    def alike(one, other, things):
        return all(value_in(database, tables, one, thing) == value_in(database, tables, other, thing) for thing in things)

    word = question[0]
    if word == "sorted":
        return not any(sign_by(database, tables, question[1], one, other) == 1 for one, other in combinations(rows, 2))
    if word == "key":
        return not any(alike(one, other, question[1]) for one, other in combinations(rows, 2))
    if word == "determines":
        return all(alike(one, other, question[2:]) for one, other in combinations(rows, 2) if alike(one, other, question[1]))
    if word == "constant":
        return all(alike(one, other, question[1:]) for one, other in combinations(rows, 2))
    if word in ("single", "empty"):
        return len(rows) <= (1 if word == "single" else 0)
    return not any(alike(one, last, question[1]) and not alike(one, between, question[1]) for one, between, last in combinations(rows, 3))


def is_broken(question, size, ranks):
    """Whether a world with these weak orders breaks a question."""
    def alike(one, other, things):
        return all(sign(ranks[thing], one, other) == 0 for thing in things)

    word = question[0]
    if size != size_of(question):
        return False
    if word == "sorted":
        return world_sign_by(ranks, question[1], 0, 1) == 1
    if word == "together":
        return alike(0, 2, question[1]) and not alike(0, 1, question[1])
    if word == "determines":
        return alike(0, 1, question[1]) and not alike(0, 1, question[2:])
    if word == "constant":
        return not alike(0, 1, question[1:])
    return word in ("single", "empty") or alike(0, 1, question[1])
