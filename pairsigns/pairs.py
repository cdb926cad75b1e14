"""All free worlds of two rows of some tables, as sets of numbers that are kept in the bits of integers."""

from pairsigns.classes import numbers_of_classes, room_of
from pairsigns.references import coming_of, references_to

SIGNS = (-1, 0, 1)


def table_vectors(catalog, query, table):
    """The list of the vectors that two rows of a table in a free world can have; of the same row all signs are 0."""
    references = references_to(query, table)
    numbers = numbers_of_classes(query)
    rooms = [room_of(query, reference) for reference in references]
    if 0 in rooms:
        return []
    groups = [numbers[reference] for reference in references]
    same = tuple([0 for _ in (*references, coming_of(table))])
    return [vector for vector in [same, *catalog.rules_of(table).vectors()] if fits_rooms(vector, groups, rooms)]


def fits_rooms(vector, groups, rooms):
    """Whether columns of one class have one sign, and those with room for one value are alike."""
    first = {}
    for sign, group, room in zip(vector, groups, rooms):
        if first.setdefault(group, sign) != sign or (room == 1 and sign != 0):
            return False
    return True


def joined_signs(catalog, query, tables):
    """The list of the tuples of signs of all things of the tables, one for each free world of two rows."""
    numbers = numbers_of_classes(query)
    spots = {}
    found = [()]
    width = 0
    for table in tables:
        groups = [numbers[reference] for reference in references_to(query, table)]
        links = [(spots[group], at) for at, group in enumerate(groups) if group in spots]
        found = linked_signs(found, table_vectors(catalog, query, table), links)
        for at, group in enumerate(groups):
            spots.setdefault(group, width + at)
        width = width + len(groups) + 1
    return found


def linked_signs(found, vectors, links):
    """Each of the tuples of signs, followed by each of the vectors that has the same signs at the links."""
    by_signs = {}
    for vector in vectors:
        by_signs.setdefault(tuple([vector[at] for _, at in links]), []).append(vector)
    return [(*signs, *vector) for signs in found for vector in by_signs.get(tuple([signs[at] for at, _ in links]), [])]


def bits_of(column, sign):
    """The set of the positions at which this sign stands in a list of signs."""
    digits = ["1" if found == sign else "0" for found in reversed(column)]
    return int("0" + "".join(digits), 2)


class Pairs:
    """The free worlds of two rows of some tables of a query. A set of them is an integer, its bits their numbers."""

    def __init__(self, catalog, query, tables):
        self._names = [thing for table in tables for thing in (*references_to(query, table), coming_of(table))]
        self._signs = joined_signs(catalog, query, tables)
        self._bits = {thing: [bits_of([signs[at] for signs in self._signs], sign) for sign in SIGNS]
                      for at, thing in enumerate(self._names)}

    def all_of_them(self):
        """The set of all of these worlds."""
        return (1 << len(self._signs)) - 1

    def having(self, thing, sign):
        """The set of the worlds in which the two rows have this sign in a thing."""
        return self._bits[thing][sign + 1]

    def alike_in(self, things):
        """The set of the worlds in which the two rows are alike in all of these things."""
        found = self.all_of_them()
        for thing in things:
            found = found & self.having(thing, 0)
        return found

    def parted(self, worlds, entries):
        """The sets of those of the worlds in which the sign by an order with these entries is -1, 0 and 1."""
        ahead, behind = 0, 0
        for column, direction in entries:
            less, more = self.having(column, -1), self.having(column, 1)
            if direction == "down":
                less, more = more, less
            ahead = ahead | (worlds & less)
            behind = behind | (worlds & more)
            worlds = worlds & self.having(column, 0)
        return (ahead, worlds, behind)

    def ahead_by(self, entries):
        """The set of the worlds in which row 0 is ahead of row 1 by an order with these entries."""
        return self.parted(self.all_of_them(), entries)[0]

    def first_of(self, worlds):
        """The dict from the things to the signs in the first world of a set that is not empty."""
        number = (worlds & -worlds).bit_length() - 1
        return dict(zip(self._names, self._signs[number]))
