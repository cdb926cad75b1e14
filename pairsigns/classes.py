"""Classes of references that a query makes equal, and the values that its filters leave them."""

from pairsigns.errors import UnknownName
from pairsigns.references import kinds_by_reference

# How far the least and the greatest number that a filter allows are from its own one, by its sign.
LEAST = {"=": 0, ">=": 0, ">": 1}
GREATEST = {"=": 0, "<=": 0, "<": -1}
MOST_ROOM = 3


def kinds_in(query):
    """The dict from the references to the tables of the query to their kinds."""
    return kinds_by_reference([(table, query.columns_of(table)) for table in query.tables])


def classes_of(query):
    """The sorted list of the classes, each a sorted tuple of references."""
    groups = {reference: [reference] for reference in kinds_in(query)}
    for one, other in query.equalities:
        if other not in groups[one]:
            joined = [*groups[one], *groups[other]]
            groups.update({reference: joined for reference in joined})
    return sorted({tuple(sorted(group)) for group in groups.values()})


def numbers_of_classes(query):
    """The dict from the references to the tables of the query to the numbers of their classes."""
    return {reference: number for number, group in enumerate(classes_of(query)) for reference in group}


def class_of(query, reference):
    """The class of a reference, a sorted tuple of references."""
    for group in classes_of(query):
        if isinstance(reference, str) and reference in group:
            return group
    raise UnknownName(reference)


def range_of(query, reference):
    """The range of the class of a reference: (low, high) for numbers, the texts that are asked for otherwise."""
    group = class_of(query, reference)
    asked = [(sign, value) for filtered, sign, value in query.filters if filtered in group]
    if kinds_in(query)[reference] == "text":
        return sorted({text for _, text in asked})
    low = max([value + LEAST[sign] for sign, value in asked if sign in LEAST], default=None)
    high = min([value + GREATEST[sign] for sign, value in asked if sign in GREATEST], default=None)
    return (low, high)


def room_of(query, reference):
    """The number of values that are in the range of the class of a reference, but 3 if there are more."""
    found = range_of(query, reference)
    if isinstance(found, list):
        return room_for_texts(found)
    low, high = found
    if low is None or high is None:
        return MOST_ROOM
    return max(0, min(MOST_ROOM, high - low + 1))


def room_for_texts(texts):
    """The room of a class of texts of which these different ones are asked for."""
    if len(texts) == 0:
        return MOST_ROOM
    return 1 if len(texts) == 1 else 0


def is_fixed(query, reference):
    """Whether the class of a reference has one value in its range."""
    return room_of(query, reference) == 1


def in_range(query, reference, value):
    """Whether a value of the kind is in the range of the class of a reference."""
    return is_within(range_of(query, reference), value)


def is_within(found, value):
    """Whether a value is in the range that was found for its class."""
    if isinstance(found, list):
        return all([value == text for text in found])
    low, high = found
    return (low is None or value >= low) and (high is None or value <= high)
