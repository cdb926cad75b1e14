"""Stores: databases that keep views, and take several writes at once."""

from pairsigns.basics import copied, is_count, is_listing, is_name
from pairsigns.errors import InvalidName, InvalidWrite, NameTaken, NotServing, PairBroken, UnknownName
from pairsigns.planning import serves
from pairsigns.plans import check_plan
from pairsigns.queries import is_one_of
from pairsigns.rules import has_form
from pairsigns.tables import Database, check_row, check_rules, fault_of_row, vector_of
from pairsigns.views import View


class Batch:
    """Writes that are noted, to be performed later."""

    def __init__(self):
        self._writes = []

    @property
    def writes(self):
        """The list of the noted writes."""
        return copied(self._writes)

    def insert(self, table, row):
        """Notes that a row is to be inserted."""
        self._note(("insert", table, row))

    def remove(self, table, place):
        """Notes that the row at this place is to be removed."""
        self._note(("remove", table, place))

    def update(self, table, place, row):
        """Notes that the row at this place is to be replaced by another one."""
        self._note(("update", table, place, row))

    def _note(self, write):
        """Notes a write, whatever its parts are."""
        self._writes.append(copied(write))


class Draft:
    """The rows of a store as they would be behind some writes; rules are asked at the end alone."""

    def __init__(self, catalog, rows, places):
        self._catalog = catalog
        self._rows = {table: dict(rows[table]) for table in catalog.tables}
        self._next = dict(places)
        self._before = dict(places)

    def rows(self):
        """The dict from the tables to the dicts from places to rows."""
        return {table: dict(self._rows[table]) for table in self._rows}

    def next_places(self):
        """The dict from the tables to their next places."""
        return dict(self._next)

    def can_take(self, value):
        """Whether this is a write that can be performed here, for any value."""
        if has_form(value, "insert", 3):
            return self._is_row(value[1], value[2])
        if has_form(value, "remove", 3):
            return self._is_place(value[1], value[2])
        return has_form(value, "update", 4) and self._is_place(value[1], value[2]) and self._is_row(value[1], value[3])

    def _is_row(self, table, row):
        """Whether these are a table and a row of it."""
        return is_one_of(table, self._rows) and fault_of_row(self._catalog.rules_of(table).columns, row) is None

    def _is_place(self, table, place):
        """Whether these are a table and the place of a row that is there."""
        return is_one_of(table, self._rows) and is_count(place) and place in self._rows[table]

    def take(self, write):
        """Performs a write that can be performed, and returns the new place, or None."""
        word, table = write[0], write[1]
        if word != "insert":
            del self._rows[table][write[2]]
        if word == "remove":
            return None
        place = self._next[table]
        self._rows[table][place] = tuple(write[-1])
        self._next[table] = place + 1
        return place

    def check_pairs(self):
        """Raises PairBroken for the first two rows that break a rule."""
        for table in self._catalog.tables:
            rules = self._catalog.rules_of(table)
            rows = sorted(self._rows[table].items())
            # Two rows that were there before keep the rules, and the new ones have the greatest places.
            added = [(place, row) for place, row in rows if place >= self._before[table]]
            for one, earlier in rows:
                for other, later in added:
                    rule = rules.first_broken(vector_of(earlier, later)) if one < other else None
                    if rule is not None:
                        raise PairBroken(table, one, other, rule)


class Store(Database):
    """A Database with kept views."""

    def __init__(self, catalog):
        super().__init__(catalog)
        self._views = {}
        self._many_kept = 0

    def insert(self, table, row):
        """Adds a row that breaks no rule with the rows that are there, and returns its place."""
        place = super().insert(table, row)
        self._tell((table,))
        return place

    def remove(self, table, place):
        """Takes out the row at this place, and returns it."""
        row = super().remove(table, place)
        self._tell((table,))
        return row

    def update(self, table, place, row):
        """Replaces the row at this place by another one, and returns the new place."""
        self.row(table, place)
        rules = self.catalog.rules_of(table)
        check_row(rules.columns, row)
        check_rules(table, rules, [kept for kept in self.rows(table) if kept[0] != place], row)
        super().remove(table, place)
        added = super().insert(table, row)
        self._tell((table,))
        return added

    def write(self, writes):
        """Performs a list of writes, or a Batch, as a whole, and returns the list of the new places."""
        listed = writes.writes if isinstance(writes, Batch) else writes
        if not is_listing(listed):
            raise InvalidWrite(-1)
        draft = Draft(self.catalog, self._rows, self._next)
        places = []
        for position, write in enumerate(listed):
            if not draft.can_take(write):
                raise InvalidWrite(position)
            places.append(draft.take(write))
        draft.check_pairs()
        self.take_over(draft.rows(), draft.next_places())
        self._tell([write[1] for write in listed])
        return places

    def batch(self):
        """A new Batch."""
        return Batch()

    def _tell(self, tables):
        """Tells all views of a write to these tables."""
        for view in self._views.values():
            view.follow(self, tables)

    def keep(self, name, query, plan):
        """A View of the rows of a plan that serves, kept under this name."""
        if not is_name(name):
            raise InvalidName(name)
        if name in self._views:
            raise NameTaken(name)
        check_plan(self.catalog, query, plan)
        if query.runs != "none" or query.first is not None or not serves(self.catalog, query, plan):
            raise NotServing()
        self._views[name] = View(self, name, query, plan, self._many_kept)
        self._many_kept = self._many_kept + 1
        return self._views[name]

    def view(self, name):
        """The View that is kept under this name."""
        if not is_one_of(name, self._views):
            raise UnknownName(name)
        return self._views[name]

    def drop(self, name):
        """Ends the view that is kept under this name."""
        self.view(name)
        del self._views[name]

    def names(self):
        """The sorted list of the names of the views."""
        return sorted(self._views)

    def clone(self):
        """A Store with the same rows and the same views, that goes its own way from now on."""
        other = Store(self.catalog)
        other.take_over(self._rows, self._next)
        other.take_views(self._views, self._many_kept)
        return other

    def take_views(self, views, many_kept):
        """Has views of its own like these, a dict by names, after so many that were kept."""
        self._views = {name: view.copied_for(self) for name, view in views.items()}
        self._many_kept = many_kept

    def is_used(self):
        """Whether a row was ever inserted, or a view kept."""
        return self._many_kept > 0 or any([place > 0 for place in self._next.values()])

    def __eq__(self, other):
        return isinstance(other, Store) and self.is_like(other)
