"""Questions about streams: their forms, and the rows that would break them."""

from pairsigns.fitting import choices_of, fitting_ranks, sets_ahead
from pairsigns.queries import is_one_of
from pairsigns.rules import has_form
from pairsigns.signs import first_wrong_entry
from pairsigns.worlds import world_with

MOST_ENTRIES = 8


def is_question(stream, value):
    """Whether this is a question about the stream."""
    if has_form(value, "sorted", 2):
        return is_asked_order(stream, value[1])
    if has_form(value, "key", 2) or has_form(value, "together", 2):
        return are_asked_things(stream, value[1])
    if has_form(value, "determines", 3):
        return are_asked_things(stream, value[1]) and is_one_of(value[2], stream.things)
    if has_form(value, "constant", 2):
        return is_one_of(value[1], stream.things)
    return has_form(value, "single", 1) or has_form(value, "empty", 1)


def is_asked_order(stream, value):
    """Whether these are entries of an order by things of the stream, not too many."""
    if not isinstance(value, tuple) or len(value) > MOST_ENTRIES or first_wrong_entry(value) is not None:
        return False
    return all([column in stream.things for column, _ in value])


def are_asked_things(stream, value):
    """Whether this is a tuple of different things of the stream."""
    if not isinstance(value, tuple) or not all([is_one_of(thing, stream.things) for thing in value]):
        return False
    return len(set(value)) == len(value)


def rows_of_question(question):
    """How many rows a world has that breaks the question."""
    return {"empty": 1, "together": 3}.get(question[0], 2)


def things_of_question(question):
    """The list of the things that a question speaks of; one can stand in it twice."""
    if question[0] == "sorted":
        return [column for column, _ in question[1]]
    if question[0] == "determines":
        return [*question[1], question[2]]
    if question[0] == "constant":
        return [question[1]]
    return [thing for things in question[1:] for thing in things]


def without(worlds, others):
    """The set of those of the worlds that are not among the others."""
    return worlds ^ (worlds & others)


def breaking_sets(pairs, order, question):
    """For each two rows of a world that breaks the question about a stream with this list, the set of the worlds of
    two rows that they can have."""
    sets = sets_ahead(pairs, rows_of_question(question), order.entries)
    word = question[0]
    if word in ("single", "empty"):
        return sets
    if word == "sorted":
        return [pairs.parted(sets[0], question[1])[2]]
    if word == "constant":
        return [without(sets[0], pairs.having(question[1], 0))]
    alike = pairs.alike_in(question[1])
    if word == "key":
        return [sets[0] & alike]
    if word == "determines":
        return [without(sets[0] & alike, pairs.having(question[2], 0))]
    first, second, both = sets
    return [without(first, alike), second, both & alike]


def breaking_ranks(pairs, order, rooms, question):
    """The dict from the things to the weak orders of a world that breaks the question about a stream with this list
    and these rooms, or None."""
    asked = things_of_question(question)
    things = [*asked, *[thing for thing in rooms if thing not in asked]]
    choices = choices_of(rows_of_question(question), {thing: rooms[thing] for thing in things})
    return fitting_ranks(pairs, breaking_sets(pairs, order, question), choices)


def breaking_world(stream, question):
    """A world of the stream that breaks the question, or None."""
    ranks = breaking_ranks(stream.pairs(), stream.order, stream.rooms(), question)
    return None if ranks is None else world_with(stream, ranks)


def is_broken(question, world):
    """Whether a world breaks a question about its stream."""
    if world.size != rows_of_question(question):
        return False
    word = question[0]
    if word in ("single", "empty"):
        return True
    if word == "sorted":
        return world.sign_by(question[1], 0, 1) == 1
    if word == "constant":
        return world.sign(question[1], 0, 1) != 0
    if word == "together":
        return are_alike(world, question[1], 0, 2) and not are_alike(world, question[1], 0, 1)
    return are_alike(world, question[1], 0, 1) and (word == "key" or world.sign(question[2], 0, 1) != 0)


def are_alike(world, things, one, other):
    """Whether two rows of a world are alike in all of these things."""
    return all([world.sign(thing, one, other) == 0 for thing in things])
