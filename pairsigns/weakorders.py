"""Weak orders of a few things: tuples of ranks, in which things may be alike."""

from pairsigns.basics import is_count, is_value, kind_of_value, sign_between, tuples_over
from pairsigns.errors import InvalidCount, InvalidValue, Unlike

MOST_THINGS = 4


def weak_orders(count, most=None):
    """Yields the weak orders of count things with at most so many different ranks, sorted."""
    if not is_count(count) or count > MOST_THINGS:
        raise InvalidCount(count)
    if most is not None and not is_count(most):
        raise InvalidCount(most)
    for ranks in tuples_over(tuple(range(count)), count):
        many = len(set(ranks))
        if sorted(set(ranks)) == list(range(many)) and (most is None or many <= most):
            yield ranks


def weak_order_of(values):
    """The weak order of a list of values of one kind."""
    for value in values:
        if not is_value(value):
            raise InvalidValue(value)
    if len({kind_of_value(value) for value in values}) > 1:
        raise Unlike()
    ranks = {value: rank for rank, value in enumerate(sorted(set(values)))}
    return tuple([ranks[value] for value in values])


def pair_sign(ranks, first, second):
    """The sign of two of the things that have these ranks."""
    return sign_between(ranks[first], ranks[second])


def signs_fit(one, other, both):
    """Whether things 0 and 1, 1 and 2, and 0 and 2 of some weak order have these signs."""
    if one == 0:
        return both == other
    if other in (0, one):
        return both == one
    # One goes up and the other one down, so things 0 and 2 may stand in any way.
    return True
