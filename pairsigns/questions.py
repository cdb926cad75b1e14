"""Questions about streams, and their answers: yes with a reason, or no with a world that shows it."""

from pairsigns.asking import breaking_world, is_broken, is_question, without
from pairsigns.errors import InvalidQuestion, Unlike
from pairsigns.plans import merge_wishes
from pairsigns.proving import reason_of
from pairsigns.signs import Order
from pairsigns.streams import Stream
from pairsigns.weakorders import pair_sign
from pairsigns.worlds import check_things, is_free_world, ranks_in_worlds, world_of_signs


class Answer:
    """What the answers to questions are: objects of Yes or of No."""


class Yes(Answer):
    """The answer that it is so, with a reason."""

    def __init__(self, reason):
        self._reason = reason

    @property
    def reason(self):
        """The reason, a tuple."""
        return self._reason

    def __bool__(self):
        return True

    def __eq__(self, other):
        return isinstance(other, Yes) and self._reason == other._reason


class No(Answer):
    """The answer that it is not so, with a world that shows it."""

    def __init__(self, world):
        self._world = world

    @property
    def world(self):
        """The World."""
        return self._world

    def __bool__(self):
        return False

    def __eq__(self, other):
        return isinstance(other, No) and self._world == other._world


def check_question(stream, question):
    """Raises InvalidQuestion for any value that is not a question about the stream."""
    if not is_question(stream, question):
        raise InvalidQuestion()


def ask(stream, question):
    """The answer to a question about the stream."""
    check_question(stream, question)
    world = breaking_world(stream, question)
    return Yes(reason_of(stream, question)) if world is None else No(world)


def is_sound(stream):
    """Whether the preconditions of all merges in the stream are answered with yes."""
    asked = [(Stream(stream.catalog, stream.query, plan), ("sorted", entries))
             for plan, entries in merge_wishes(stream.plan)]
    return all([breaking_world(part, question) is None for part, question in asked])


def is_broken_by(stream, question, world):
    """Whether this is a free world of the stream that breaks the question."""
    check_question(stream, question)
    return is_free_world(stream, world) and is_broken(question, world)


def vectors_of(stream, things):
    """The sorted list of the vectors of rows 0 and 1 in the things, over all worlds of the stream of two rows."""
    check_things(stream, 2, things)
    found = ranks_in_worlds(stream, 2, things)
    return sorted([tuple([pair_sign(ranks, 0, 1) for ranks in chosen]) for chosen in found])


def short_list(stream):
    """The list of the stream without the entries in which rows are alike anyway."""
    pairs = stream.pairs()
    left = pairs.ahead_by(stream.order.entries)
    kept = []
    for column, direction in stream.order.entries:
        if without(left, pairs.having(column, 0)) != 0:
            kept.append((column, direction))
        left = left & pairs.having(column, 0)
    return Order(kept)


def same_sequence(one, other):
    """True, or a free world of the first stream with two rows that do not come in one sequence in both streams."""
    if one.catalog != other.catalog or one.query != other.query or sorted(one.tables) != sorted(other.tables):
        raise Unlike()
    pairs = one.pairs()
    first, second = pairs.ahead_by(one.order.entries), pairs.ahead_by(other.order.entries)
    different = first ^ second
    return True if different == 0 else world_of_signs(one, pairs.first_of(different))
