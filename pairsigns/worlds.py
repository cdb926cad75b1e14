"""Worlds: what one, two or three rows of a stream have in common, and a database that shows it."""

from pairsigns.basics import copied, is_count, is_integer
from pairsigns.classes import range_of, room_of
from pairsigns.errors import InvalidCount, TooMany, UnknownName
from pairsigns.fitting import all_fitting_ranks, choices_of, sets_ahead
from pairsigns.queries import is_one_of
from pairsigns.references import coming_of, references_to
from pairsigns.signs import Order, sign_by
from pairsigns.tables import Database
from pairsigns.weakorders import pair_sign

MOST_THINGS = 6
MOST_THINGS_OF_THREE = 3
LETTERS = "abc"


def sorted_copy(table):
    """A copy of a dict, its keys sorted."""
    return {key: copied(table[key]) for key in sorted(table)}


class World:
    """Which of a few rows are made of the same rows of tables, and their weak orders in things."""

    def __init__(self, size, marks, ranks):
        self._size = copied(size)
        self._marks = sorted_copy(marks)
        self._ranks = sorted_copy(ranks)

    @property
    def size(self):
        """The number of rows."""
        return copied(self._size)

    @property
    def marks(self):
        """The dict from the names of tables to marks."""
        return copied(self._marks)

    @property
    def ranks(self):
        """The dict from things to weak orders."""
        return copied(self._ranks)

    def sign(self, thing, first, second):
        """The sign of two rows in a thing."""
        return pair_sign(self._ranks[thing], first, second)

    def sign_by(self, order, first, second):
        """The sign of two rows by an order."""
        entries = Order(order).entries
        known = [column for column, _ in entries if column in self._ranks]
        return sign_by(entries, {column: self.sign(column, first, second) for column in known})

    def __eq__(self, other):
        return isinstance(other, World) and self._size == other._size and (
            self._marks == other._marks and self._ranks == other._ranks)


def is_marking(value, size):
    """Whether this is a mark of so many rows."""
    if not isinstance(value, tuple) or len(value) != size or not all([is_count(mark) for mark in value]):
        return False
    return all([mark <= max(value[:at], default=-1) + 1 for at, mark in enumerate(value)])


def is_weak_order(value, size):
    """Whether this is a weak order of so many rows."""
    if not isinstance(value, tuple) or len(value) != size or not all([is_count(rank) for rank in value]):
        return False
    return sorted(set(value)) == list(range(len(set(value))))


def row_pairs(size):
    """The list of each two of so many rows, the earlier one first."""
    return [(one, other) for other in range(size) for one in range(other)]


def has_world_form(stream, value):
    """Whether this is a World with the stream's tables and things, of one to three rows."""
    if not isinstance(value, World) or not is_integer(value.size) or not 1 <= value.size <= 3:
        return False
    marks, ranks, size = value.marks, value.ranks, value.size
    if list(marks) != sorted(stream.tables) or list(ranks) != sorted(stream.things):
        return False
    return all([is_marking(mark, size) for mark in marks.values()]) and (
        all([is_weak_order(order, size) for order in ranks.values()]))


def keeps_marks(stream, world, table):
    """Whether rows made of one row of a table are alike in all of it, and others keep its rules."""
    mark, coming = world.marks[table], coming_of(table)
    things = [*references_to(stream.query, table), coming]
    rules = stream.catalog.rules_of(table)
    for one, other in row_pairs(world.size):
        signs = tuple([world.sign(thing, one, other) for thing in things])
        if mark[one] == mark[other]:
            if signs != tuple([0 for _ in signs]):
                return False
        elif signs[-1] == 0 or not rules.lets(signs):
            return False
    return True


def keeps_classes(stream, world):
    """Whether references of one class have one weak order, with no more ranks than the room of the class."""
    ranks = world.ranks
    for group in stream.classes:
        if any([ranks[reference] != ranks[group[0]] for reference in group]):
            return False
        if max(ranks[group[0]]) >= room_of(stream.query, group[0]):
            return False
    return True


def is_free_world(stream, value):
    """Whether this is a World that satisfies all conditions for one of the stream but that of its list."""
    if not has_world_form(stream, value) or not keeps_classes(stream, value):
        return False
    return all([keeps_marks(stream, value, table) for table in stream.tables])


def is_world(stream, value):
    """Whether this is a World of the stream."""
    if not is_free_world(stream, value):
        return False
    return all([value.sign_by(stream.order, one, other) == -1 for one, other in row_pairs(value.size)])


def world_with(stream, ranks):
    """The World of rows of the stream that have these weak orders in its things."""
    comings = {table: ranks[coming_of(table)] for table in stream.tables}
    size = len(comings[stream.tables[0]])
    return World(size, {table: marks_of(comings[table]) for table in comings}, ranks)


def world_of_signs(stream, signs):
    """The World of two rows of the stream that have these signs in its things."""
    ranks = {-1: (0, 1), 0: (0, 0), 1: (1, 0)}
    return world_with(stream, {thing: ranks[sign] for thing, sign in signs.items()})


def marks_of(places):
    """The mark of rows that are made of rows of a table with these places."""
    different = [place for at, place in enumerate(places) if place not in places[:at]]
    return tuple([different.index(place) for place in places])


def value_of_rank(found, rank, most):
    """The value of a rank, of which the greatest one is most, in a class with this range."""
    if isinstance(found, list):
        return found[0] if len(found) > 0 else LETTERS[rank]
    low, high = found
    if low is not None:
        return low + rank
    return rank if high is None else high - most + rank


def value_in_world(stream, world, reference, row):
    """The value of a row of the world in a reference."""
    ranks = world.ranks[reference]
    return value_of_rank(range_of(stream.query, reference), ranks[row], max(ranks))


def database_of(stream, world):
    """The tuple of the Database of a world, and the list of the world's rows in it."""
    database = Database(stream.catalog)
    places = {}
    for table in stream.tables:
        references = references_to(stream.query, table)
        coming = world.ranks[coming_of(table)]
        for row in sorted(row_numbers(world), key=lambda row: coming[row]):
            spot = (table, world.marks[table][row])
            if spot not in places:
                values = [value_in_world(stream, world, reference, row) for reference in references]
                places[spot] = database.insert(table, values)
    rows = [tuple([places[(table, world.marks[table][row])] for table in stream.tables]) for row in row_numbers(world)]
    return (database, rows)


def row_numbers(world):
    """The list of the numbers of the rows of a world."""
    return list(range(world.size))


def check_things(stream, size, things):
    """Raises UnknownName or TooMany unless these are different things of the stream, not too many for such worlds."""
    for position, thing in enumerate(things):
        if not is_one_of(thing, stream.things) or thing in things[:position]:
            raise UnknownName(thing)
    most = MOST_THINGS_OF_THREE if size == 3 else MOST_THINGS
    if len(things) > most:
        raise TooMany("things", most)


def worlds_of(stream, size, things):
    """Yields the tuples of weak orders of the things with which the stream has a world of so many rows, sorted."""
    if not is_integer(size) or not 1 <= size <= 3:
        raise InvalidCount(size)
    check_things(stream, size, things)
    for found in ranks_in_worlds(stream, size, things):
        yield found


def ranks_in_worlds(stream, size, things):
    """The list of what worlds_of yields."""
    rooms = stream.rooms()
    asked = choices_of(size, {thing: rooms[thing] for thing in things})
    others = choices_of(size, {thing: rooms[thing] for thing in rooms if thing not in things})
    sets = sets_ahead(stream.pairs(), size, stream.order.entries)
    return all_fitting_ranks(stream.pairs(), sets, asked, others)
