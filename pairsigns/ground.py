"""What a reason about a stream rests on: what is decided on the way to an end, and whether the end is true there."""

from pairsigns.asking import rows_of_question
from pairsigns.basics import tuples_over
from pairsigns.classes import room_of
from pairsigns.fitting import BETWEEN
from pairsigns.queries import is_one_of
from pairsigns.references import coming_of, references_to
from pairsigns.rules import has_form, is_broken, signs_by_name
from pairsigns.weakorders import pair_sign, weak_orders
from pairsigns.worlds import is_marking

SIGNS = (-1, 0, 1)


class Ground:
    """A stream and a question, as the reasons for the question speak of them.

    What is decided is a dict from what was split to the case on the way: from tables to marks, from coming and from
    the first reference of each class to weak orders."""

    def __init__(self, stream, question):
        size = rows_of_question(question)
        self._between = BETWEEN[size]
        self._question = question
        self._heads = {thing: thing for thing in stream.things}
        for group in stream.classes:
            self._heads.update({reference: group[0] for reference in group})
        self._entries = [(self._heads[column], direction) for column, direction in stream.order.entries]
        self._columns = {table: [*references_to(stream.query, table), coming_of(table)] for table in stream.tables}
        self._rules = {table: stream.catalog.rules_of(table) for table in stream.tables}
        self._rooms = {group[0]: room_of(stream.query, group[0]) for group in stream.classes}
        self._owners = {head: [table for table in stream.tables if head in self.heads_of(table)]
                        for head in self._heads.values()}
        marks = [mark for mark in tuples_over(tuple(range(size)), size) if is_marking(mark, size)]
        ranks = list(weak_orders(size))
        self._cases = {name: marks if name in self._columns else ranks for name in (*stream.tables, *self._owners)}
        self._ends = {name: self._possible_ends(name) for name in self._cases}
        self._broken = {}

    def heads_of(self, table):
        """The list of the heads of the columns of a table, and its coming."""
        return [self._heads[thing] for thing in self._columns[table]]

    def head_of(self, thing):
        """What stands for a thing where it is split, or a table itself; None for any other value."""
        if is_one_of(thing, self._columns):
            return thing
        return self._heads[thing] if is_one_of(thing, self._heads) else None

    def cases_of(self, name):
        """The list of the cases of a table, or of the head of a thing."""
        return list(self._cases[name])

    def sign(self, decided, head, one, other):
        """The sign of two rows in a thing by what is decided, or None."""
        if head in decided:
            return pair_sign(decided[head], one, other)
        for table in self._owners[head]:
            if table in decided and decided[table][one] == decided[table][other]:
                return 0
        return None

    def sign_of_thing(self, decided, thing, one, other):
        """The sign of two rows in any thing of the stream by what is decided, or None."""
        return self.sign(decided, self._heads[thing], one, other)

    def sign_by(self, decided, entries, one, other):
        """The sign of two rows by entries with heads, as far as it is decided; 0 if all are decided as alike."""
        for head, direction in entries:
            sign = self.sign(decided, head, one, other)
            if sign != 0:
                return -sign if sign is not None and direction == "down" else sign
        return 0

    def is_true(self, decided, why):
        """Whether this is a true reason why the cases that are decided exclude all worlds; for any value."""
        if has_form(why, "asked", 1):
            return self.is_asked(decided)
        if has_form(why, "list", 1):
            return self.is_listed(decided)
        if has_form(why, "rule", 3):
            return is_one_of(why[1], self._rules) and why[2] in self._rules[why[1]] and (
                why[2] in self.broken_rules(decided, why[1]))
        if has_form(why, "same", 2):
            return is_one_of(why[1], self._heads) and self.is_same(decided, why[1])
        return has_form(why, "room", 2) and is_one_of(why[1], self._heads) and self.is_room(decided, why[1])

    def is_asked(self, decided):
        """Whether the question is not broken by what is decided."""
        word = self._question[0]
        if word == "sorted":
            entries = [(self._heads[column], direction) for column, direction in self._question[1]]
            return self.sign_by(decided, entries, 0, 1) in (-1, 0)
        if word == "constant":
            return self.sign_of_thing(decided, self._question[1], 0, 1) == 0
        if word in ("single", "empty"):
            return False
        things = self._question[1]
        if word == "together":
            return self.differ(decided, things, 0, 2) or (
                all([self.sign_of_thing(decided, thing, 0, 1) == 0 for thing in things]))
        if self.differ(decided, things, 0, 1):
            return True
        return word == "determines" and self.sign_of_thing(decided, self._question[2], 0, 1) == 0

    def differ(self, decided, things, one, other):
        """Whether two rows are decided as not alike in one of the things."""
        return any([self.sign_of_thing(decided, thing, one, other) in (-1, 1) for thing in things])

    def is_listed(self, decided):
        """Whether some two rows have a sign other than -1 by the list, by what is decided."""
        return any([self.sign_by(decided, self._entries, one, other) in (0, 1) for one, other in self._between])

    def broken_rules(self, decided, table):
        """The list of the rules of a table that some two rows break that are decided as made of different ones."""
        mark = decided.get(table)
        if mark is None:
            return []
        heads = self.heads_of(table)
        return [rule for one, other in self._between if mark[one] != mark[other]
                for rule in self.broken_by(table, tuple([self.sign(decided, head, one, other) for head in heads]))]

    def broken_by(self, table, signs):
        """The list of the rules that all vectors break that have these signs; None stands for any sign."""
        if (table, signs) not in self._broken:
            self._broken[(table, signs)] = self.rules_broken_by_all(table, signs)
        return self._broken[(table, signs)]

    def rules_broken_by_all(self, table, signs):
        """What broken_by returns, when it is asked for first."""
        rules = self._rules[table]
        vectors = [()]
        for sign in signs:
            vectors = [(*begun, added) for begun in vectors for added in (SIGNS if sign is None else (sign,))]
        named = [signs_by_name(rules.columns, vector) for vector in vectors if vector[-1] != 0]
        return [rule for rule in rules.rules if all([is_broken(rule, told) for told in named])]

    def is_same(self, decided, thing):
        """Whether rows are decided as made of one row of a table, but not as alike in a thing of it, or the other
        way round for its coming."""
        table, head = thing.partition(".")[0], self._heads[thing]
        if table not in decided or head not in decided:
            return False
        mark, ranks = decided[table], decided[head]
        for one, other in self._between:
            alike = pair_sign(ranks, one, other) == 0
            if (mark[one] == mark[other]) != alike and (not alike or thing == coming_of(table)):
                return True
        return False

    def is_room(self, decided, reference):
        """Whether the weak order of the class of a reference is decided with more ranks than its room."""
        head = self._heads[reference]
        return head in decided and head in self._rooms and max(decided[head]) >= self._rooms[head]

    def _possible_ends(self, name):
        """The list of what ends_of gives for a name."""
        tables = [name] if name in self._columns else self._owners[name]
        things = [thing for table in tables for thing in self._columns[table] if name in (table, self._heads[thing])]
        heads = [self._heads[thing] for thing in things]
        near = [table for table in self._columns if any([head in heads for head in self.heads_of(table)])]
        whys = [("same", thing) for thing in things] + [("asked",), ("list",)]
        whys.extend([("rule", table, rule) for table in near for rule in self._rules[table].rules])
        return [("room", name), *whys] if name in self._rooms else whys

    def ends_of(self, name):
        """The list of all reasons why that a decision about a table or a head can make true."""
        return list(self._ends[name])
