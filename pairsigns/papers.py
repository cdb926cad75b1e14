"""Refusals: papers that show that no orders at the sorts of a shape serve, pair by pair."""

from pairsigns.basics import is_count
from pairsigns.errors import InvalidPlan
from pairsigns.plans import stream_in
from pairsigns.queries import check_fits, is_one_of
from pairsigns.serving import Judge, possible_entries, take_entry
from pairsigns.wishes import is_shape, wishes_of
from pairsigns.worlds import is_free_world, world_of_signs

DIRECTIONS = ("up", "down")


def check_shape(catalog, query, shape):
    """Raises InvalidPlan unless this is a shape of the space of a query without runs."""
    check_fits(catalog, query)
    if query.runs != "none" or not is_shape(catalog, query, shape):
        raise InvalidPlan(())


def refusal_of(catalog, query, shape):
    """A refusal of a shape, or None if it has a filling that serves."""
    check_shape(catalog, query, shape)
    # A wish of no entries is the last one, if it is one, and is never contradicted.
    places, wishes = Judge(catalog, query).places_and_wishes(stream_in(shape), [query.order.entries])
    streams = [stream for stream, _ in wishes_of(catalog, query, shape)]
    choices, end, worlds = [], None, []
    for position, (column, told) in enumerate(places):
        reached = {number: wish for number, wish in enumerate(wishes) if wish.reaches(position)}
        near = list(reached.values())
        if column is None:
            chosen = chosen_references(told, near)
            worlds.extend([(len(choices), entry, *world_against(streams, reached, entry))
                           for entry in entries_beside(told, chosen)])
            choices.append(tuple(sorted(chosen)))
        else:
            end = world_against(streams, reached, (column, told)) if end is None else end
            take_entry(near, (column, told))
    if end is None and () not in choices:
        return None
    return (tuple(choices), end, tuple(worlds))


def chosen_references(references, wishes):
    """The list of the references that can stand in a sort, one behind another, since in some direction no wish
    contradicts them; the wishes take them."""
    chosen = []
    possible = possible_behind(chosen, references, wishes)
    while len(possible) > 0:
        chosen.append(possible[0][0])
        take_entry(wishes, possible[0])
        possible = possible_behind(chosen, references, wishes)
    return chosen


def possible_behind(chosen, references, wishes):
    """The list of the entries that no wish contradicts, with references that are not chosen yet."""
    return possible_entries(entries_beside(references, chosen), wishes)


def entries_beside(references, chosen):
    """The list of the entries, in both directions, with those of the references that are not chosen."""
    return [(reference, direction) for reference in references if reference not in chosen for direction in DIRECTIONS]


def world_against(streams, wishes, entry):
    """The number of the first of the wishes, a dict by numbers, that contradicts an entry, and a world that does so;
    None if there is none."""
    for number, wish in wishes.items():
        if wish.is_contradicted_by(entry):
            return (number, world_of_signs(streams[number], wish.signs_against(entry)))
    return None


def is_refusal(catalog, query, shape, value):
    """Whether this is a right refusal of a shape, for any value."""
    check_shape(catalog, query, shape)
    return Paper(catalog, query, shape).is_right(value)


class Paper:
    """A shape, as refusals of it speak of it: the places in its list, its sorts and its wishes by numbers."""

    def __init__(self, catalog, query, shape):
        self._places, wished = Judge(catalog, query).laid_out(stream_in(shape))
        ends = [(begin, end) for begin, end, _, _ in wished]
        # If the query has an order, the last wish is about the whole list.
        self._ends = [*ends, (0, len(self._places))]
        self._wishes = wishes_of(catalog, query, shape)
        self._sorts = [position for position, (column, _) in enumerate(self._places) if column is None]

    def is_right(self, value):
        """Whether this is a right refusal, for any value."""
        if not isinstance(value, tuple) or len(value) != 3:
            return False
        choices, end, worlds = value
        if not self.are_choices(choices):
            return False
        if end is None:
            return () in choices and self.are_worlds(choices, worlds)
        return self.is_end(choices, end) and self.are_worlds(choices, worlds)

    def are_choices(self, value):
        """Whether this is a tuple of sorted tuples of different references, one for each sort."""
        if not isinstance(value, tuple) or len(value) != len(self._sorts):
            return False
        return all([self.is_choice(position, chosen) for position, chosen in zip(self._sorts, value)])

    def is_choice(self, position, value):
        """Whether these are references that can be chosen at the sort at this position, sorted."""
        references = self._places[position][1]
        if not isinstance(value, tuple) or not all([is_one_of(reference, references) for reference in value]):
            return False
        return list(value) == sorted(set(value))

    def is_end(self, choices, value):
        """Whether this is a wish and a pair of it that an entry of the list decides in another way."""
        if not isinstance(value, tuple) or len(value) != 2 or not self.is_pair(value[0], value[1]):
            return False
        number, world = value
        positions = [position for position in self.positions_of(number) if position not in self._sorts]
        return any([self.is_first_sign(number, world, choices, position, self._places[position])
                    for position in positions])

    def positions_of(self, number):
        """The list of the positions of the list of the stream of a wish."""
        begin, end = self._ends[number]
        return list(range(begin, end))

    def is_pair(self, number, world):
        """Whether these are the number of a wish and a free world of two rows of its stream, the first one ahead."""
        if not is_count(number) or number >= len(self._wishes):
            return False
        stream, order = self._wishes[number]
        return is_free_world(stream, world) and world.size == 2 and world.sign_by(order, 0, 1) == -1

    def is_first_sign(self, number, world, choices, position, entry):
        """Whether a pair has the sign 1 by an entry at a position of the list of the stream of a wish, and is alike
        in all that stands before this position."""
        before = [thing for ahead in self.positions_of(number) if ahead < position
                  for thing in self.things_at(ahead, choices)]
        return world.sign_by([entry], 0, 1) == 1 and all([world.sign(thing, 0, 1) == 0 for thing in before])

    def things_at(self, position, choices):
        """What decides at a position of the list: the column of its entry, or the chosen references of its sort."""
        if position in self._sorts:
            return choices[self._sorts.index(position)]
        return (self._places[position][0],)

    def are_worlds(self, choices, value):
        """Whether these are worlds against all entries with references that are not chosen, each just once."""
        if not isinstance(value, tuple) or not all([self.is_world_against(choices, part) for part in value]):
            return False
        needed = [(sort, entry) for sort, chosen in enumerate(choices)
                  for entry in entries_beside(self._places[self._sorts[sort]][1], chosen)]
        return sorted([part[:2] for part in value]) == sorted(needed)

    def is_world_against(self, choices, value):
        """Whether this is a tuple of a sort, an entry that is not chosen there, a wish, and a pair against it."""
        if not isinstance(value, tuple) or len(value) != 4:
            return False
        sort, entry, number, world = value
        if not is_count(sort) or sort >= len(self._sorts) or not self.is_pair(number, world):
            return False
        position = self._sorts[sort]
        if position not in self.positions_of(number) or not self.is_entry_at(position, entry):
            return False
        alike = all([world.sign(thing, 0, 1) == 0 for thing in choices[sort]])
        return alike and self.is_first_sign(number, world, choices, position, entry)

    def is_entry_at(self, position, value):
        """Whether this is an entry with a reference of the sort at this position."""
        if not isinstance(value, tuple) or len(value) != 2:
            return False
        return is_one_of(value[0], self._places[position][1]) and is_one_of(value[1], DIRECTIONS)
