"""Weak orders of one, two or three rows, of which each two rows are as in free worlds of two rows."""

from pairsigns.weakorders import pair_sign, weak_orders

# Which rows are compared, in the sequence in which their signs, or sets of their worlds, stand.
BETWEEN = {1: (), 2: ((0, 1),), 3: ((0, 1), (1, 2), (0, 2))}


def signs_between(ranks):
    """The signs of each two of the rows that have these ranks."""
    return tuple([pair_sign(ranks, one, other) for one, other in BETWEEN[len(ranks)]])


def choices_of(size, rooms):
    """The list of the tuples of a thing and the dict from the weak orders that its room allows to their signs."""
    found = [{ranks: signs_between(ranks) for ranks in weak_orders(size, room)} for room in range(size + 1)]
    return [(thing, found[min(room, size)]) for thing, room in rooms.items()]


def sets_ahead(pairs, size, entries):
    """For each two of so many rows, the set of the worlds in which the earlier one is ahead by these entries."""
    return [pairs.ahead_by(entries) for _ in BETWEEN[size]]


def narrowed(pairs, sets, thing, signs):
    """The sets of worlds of each two rows, without those that have other signs in a thing."""
    return [worlds & pairs.having(thing, sign) for worlds, sign in zip(sets, signs)]


def fitting_ranks(pairs, sets, choices):
    """A dict from the things to weak orders of rows of which each two are as in a world of their set, or None."""
    if 0 in sets:
        return None
    if len(choices) == 0:
        return {}
    thing, ranked = choices[0]
    rest = choices[1:]
    for ranks, signs in ranked.items():
        found = fitting_ranks(pairs, narrowed(pairs, sets, thing, signs), rest)
        if found is not None:
            return {thing: ranks, **found}
    return None


def all_fitting_ranks(pairs, sets, asked, others):
    """The sorted list of the tuples of weak orders in the things that are asked for with which there are rows."""
    if 0 in sets:
        return []
    if len(asked) == 0:
        return [] if fitting_ranks(pairs, sets, others) is None else [()]
    thing, ranked = asked[0]
    rest = asked[1:]
    found = []
    for ranks, signs in ranked.items():
        longer = all_fitting_ranks(pairs, narrowed(pairs, sets, thing, signs), rest, others)
        found.extend([(ranks, *more) for more in longer])
    return found
