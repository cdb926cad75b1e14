"""[12] and [4]: rows and their places, writes that rules refuse, sequences of indexes, and clones."""

import random
import unittest

from pairsigns.errors import InvalidRow, RuleBroken, UnknownName, UnknownPlace, UnknownTable
from pairsigns.rules import Rules
from pairsigns.tables import Catalog, Database
from tests.rule_samples import ALL_COLUMNS, BACK, FOUR, ONE, TWO, names, rows_break, some_rules
from tests.samples import BIG, check_error, check_false, check_same, check_true, odd_values

KEY = ("key", ("a",))
RISING = ("orders", (("coming", "up"),), (("a", "up"),))
TEXTS = ("", "a", "ab", "b", "zzzzzzzzzzzz")
NUMBERS = (-BIG, -2, -1, 0, 1, 10, 9, BIG)


def sample(rules=()):
    return Database(Catalog([("r", Rules(TWO, rules), [("by", [("a", "up"), ("b", "down")])]), ("s", Rules(ONE), [])]))


def filled():
    database = sample()
    for row in ((3, "b"), (1, "a"), (3, "ab")):
        database.insert("r", row)
    database.insert("s", (7,))
    database.remove("r", 1)
    return database


def is_of_kind(value, kind):
    if kind == "number":
        return type(value) is int
    return isinstance(value, str) and len(value) <= 12 and value.strip("abcdefghijklmnopqrstuvwxyz") == ""


def as_numbers(columns, row, place):
    """A row by names, with its place; texts as numbers in the same sequence."""
    told = dict(zip(names(columns), row, strict=True)) | {"coming": place}
    return {name: TEXTS.index(value) if isinstance(value, str) else value for name, value in told.items()}


class Inserting(unittest.TestCase):
    def test_places_and_rows(self):
        database = sample()
        check_same(self, database.rows("r"), [])
        check_same(self, database.insert("r", (3, "b")), 0)
        check_same(self, database.insert("r", [1, ""]), 1)
        check_same(self, database.insert("s", (-BIG,)), 0)
        check_same(self, database.insert("r", (3, "b")), 2)
        check_same(self, database.rows("r"), [(0, (3, "b")), (1, (1, "")), (2, (3, "b"))])
        check_same(self, database.rows(table="s"), [(0, (-BIG,))])
        check_same(self, database.row("r", 1), (1, ""))
        check_same(self, database.row(place=0, table="s"), (-BIG,))
        self.assertEqual(len(database), 4)

    def test_by_names(self):
        database = sample()
        check_same(self, database.insert(row=[5, "z"], table="r"), 0)
        check_same(self, database.remove(place=0, table="r"), (5, "z"))

    def test_places_are_not_used_again(self):
        database = sample()
        for _ in range(3):
            database.insert("s", (1,))
        check_same(self, database.remove("s", 2), (1,))
        check_same(self, database.remove("s", 0), (1,))
        check_same(self, database.insert("s", (2,)), 3)
        check_same(self, database.rows("s"), [(1, (1,)), (3, (2,))])
        database.remove("s", 3)
        database.remove("s", 1)
        check_same(self, database.rows("s"), [])
        check_same(self, database.insert("s", (2,)), 4)

    def test_refused_rows_take_no_place(self):
        database = sample([KEY])
        database.insert("r", (1, "a"))
        check_error(self, RuleBroken, {"table": "r", "place": 0, "rule": KEY}, database.insert, "r", (1, "b"))
        check_error(self, InvalidRow, {"position": 1}, database.insert, "r", (2, 2))
        check_same(self, database.insert("r", (2, "b")), 1)

    def test_unknown_tables(self):
        database = sample()
        for value in odd_values() + ["z", "R", "r ", "r.a", ("r",), ["r"]]:
            told = {"value": value}
            check_error(self, UnknownTable, told, database.insert, value, None)
            check_error(self, UnknownTable, told, database.remove, value, None)
            check_error(self, UnknownTable, told, database.row, value, None)
            check_error(self, UnknownTable, told, database.rows, value)
            check_error(self, UnknownTable, told, database.sequence, value, None)

    def test_what_is_no_row(self):
        database = sample([("key", ())])
        database.insert("r", (1, "a"))
        for value in odd_values() + [(1,), (1, "a", 1), "ab", {1: "a", 2: "b"}, [1], [1, "a", None], iter((1, "a"))]:
            if not isinstance(value, (list, tuple)) or len(value) != 2:
                check_error(self, InvalidRow, {"position": -1}, database.insert, "r", value)
        self.assertEqual(len(database), 1)

    def test_wrong_values(self):
        database = Database(Catalog([("r", Rules(FOUR), [])]))
        good = [1, "a", -BIG, 0]
        for value in odd_values() + ["a" * 12, "a" * 13, "A", "a1", "a\n", b"a"]:
            for position, (_, kind) in enumerate(FOUR):
                row = good[:position] + [value] + [None] * (3 - position)
                if not is_of_kind(value, kind):
                    check_error(self, InvalidRow, {"position": position}, database.insert, "r", row)
                elif position < 3:
                    check_error(self, InvalidRow, {"position": position + 1}, database.insert, "r", tuple(row))
        self.assertEqual(len(database), 0)
        check_same(self, database.insert("r", (BIG, "a" * 12, -BIG, 0)), 0)

    def test_what_was_passed_is_copied_and_left_as_it_was(self):
        database, row = sample(), [1, "a"]
        database.insert("r", row)
        self.assertEqual(row, [1, "a"])
        row[0] = 5
        check_same(self, database.row("r", 0), (1, "a"))

    def test_two_hundred_rows(self):
        database = sample([KEY, RISING])
        for number in range(200):
            check_same(self, database.insert("r", (number, "a")), number)
        check_error(self, RuleBroken, {"table": "r", "place": 199, "rule": KEY}, database.insert, "r", (199, "b"))
        check_error(self, RuleBroken, {"table": "r", "place": 100, "rule": KEY}, database.insert, "r", (100, "b"))
        check_error(self, RuleBroken, {"table": "r", "place": 0, "rule": RISING}, database.insert, "r", (-1, "b"))


class Refusing(unittest.TestCase):
    def test_against_the_rules(self):
        """A row is refused exactly if the rows behind the write would break a rule, however the rules are chosen."""
        dice, refused, taken = random.Random(11), 0, 0
        for columns in ALL_COLUMNS:
            possible = some_rules(columns)
            for _ in range(12):
                listed = dice.sample(possible, dice.choice((0, 1, 1, 2, 3)))
                found = self.check_writes(dice, columns, listed)
                refused, taken = refused + found[0], taken + found[1]
        self.assertGreater(refused, 100)
        self.assertGreater(taken, 100)

    def check_writes(self, dice, columns, listed):
        database = Database(Catalog([("q", Rules(columns), []), ("r", Rules(columns, listed), [])]))
        kept, coming, refused = {}, 0, 0
        for _ in range(25):
            if kept and dice.random() < 0.2:
                place = dice.choice(sorted(kept))
                check_same(self, database.remove("r", place), kept.pop(place))
                continue
            row = tuple(dice.choice((-1, 0, 1)) if kind == "number" else dice.choice(TEXTS[:3]) for _, kind in columns)
            broken = self.first_broken(columns, listed, kept, row, coming)
            if broken:
                refused += 1
                check_error(self, RuleBroken, {"table": "r", "place": broken[0], "rule": broken[1]}, database.insert, "r", row)
            else:
                check_same(self, database.insert("r", list(row)), coming)
                kept[coming] = row
                coming += 1
            check_same(self, database.rows("r"), sorted(kept.items()))
        self.assertEqual(len(database), len(kept))
        return refused, coming

    def first_broken(self, columns, listed, kept, row, coming):
        """The smallest place of a row with which the new one breaks a rule, and the first such rule."""
        for place in sorted(kept):
            for rule in listed:
                if rows_break(rule, as_numbers(columns, kept[place], place), as_numbers(columns, row, coming)):
                    return place, rule
        return None

    def test_the_smallest_place_comes_before_the_first_rule(self):
        database = sample([KEY, ("key", ("b",))])
        database.insert("r", (1, "a"))
        database.insert("r", (2, "b"))
        check_error(self, RuleBroken, {"table": "r", "place": 0, "rule": ("key", ("b",))}, database.insert, "r", (2, "a"))
        check_error(self, RuleBroken, {"table": "r", "place": 1, "rule": KEY}, database.insert, "r", (2, "b"))
        database.remove("r", 0)
        check_error(self, RuleBroken, {"table": "r", "place": 1, "rule": KEY}, database.insert, "r", (2, "a"))

    def test_a_row_that_is_gone_refuses_nothing(self):
        database = sample([KEY, RISING])
        database.insert("r", (5, "a"))
        check_error(self, RuleBroken, {"table": "r", "place": 0, "rule": RISING}, database.insert, "r", (4, "a"))
        database.remove("r", 0)
        check_same(self, database.insert("r", (4, "a")), 1)

    def test_at_most_one_row(self):
        database = sample([("key", ())])
        check_same(self, database.insert("r", (1, "a")), 0)
        check_error(self, RuleBroken, {"table": "r", "place": 0, "rule": ("key", ())}, database.insert, "r", (1, "a"))
        check_error(self, RuleBroken, {"table": "r", "place": 0, "rule": ("key", ())}, database.insert, "r", (2, "b"))

    def test_rows_that_are_alike_are_allowed_without_rules(self):
        database = sample()
        check_same(self, [database.insert("r", (1, "a")) for _ in range(3)], [0, 1, 2])

    def test_great_whole_numbers_are_told_apart(self):
        database = sample([KEY])
        for number in (BIG, BIG - 1, -BIG, -BIG + 1):
            database.insert("r", (number, "a"))
        check_error(self, RuleBroken, {"table": "r", "place": 1, "rule": KEY}, database.insert, "r", (BIG - 1, "b"))

    def test_rules_of_other_tables_do_not_count(self):
        database = sample([KEY])
        for _ in range(2):
            database.insert("s", (1,))
        self.assertEqual(len(database), 2)


class Rows(unittest.TestCase):
    def test_unknown_places(self):
        database = filled()
        for value in odd_values() + [1, 3, -1, "0", (0,), [0], -2, -3]:
            if type(value) is not int or value not in (0, 2):
                check_error(self, UnknownPlace, {"value": value}, database.row, "r", value)
                check_error(self, UnknownPlace, {"value": value}, database.remove, "r", value)
        self.assertEqual(database, filled())

    def test_a_row_is_removed_once(self):
        database = filled()
        check_same(self, database.remove("r", 2), (3, "ab"))
        check_error(self, UnknownPlace, {"value": 2}, database.remove, "r", 2)
        check_same(self, database.rows("r"), [(0, (3, "b"))])

    def test_returned_lists_are_new(self):
        database = filled()
        for find in (lambda: database.rows("r"), lambda: database.sequence("r", "by")):
            found = find()
            self.assertIsNot(found, find())
            found.clear()
            self.assertEqual(len(find()), 2)

    def test_the_catalog(self):
        database = sample([KEY])
        self.assertEqual(database.catalog, Catalog([("r", Rules(TWO, [KEY]), [("by", [("a", "up"), ("b", "down")])]),
                                                    ("s", Rules(ONE), [])]))
        with self.assertRaises(AttributeError):
            database.catalog = None
        catalog = database.catalog
        self.assertEqual(Database(catalog=catalog).catalog, catalog)

    def test_length(self):
        database = sample()
        self.assertEqual(len(database), 0)
        self.assertEqual(len(filled()), 3)


class Sequences(unittest.TestCase):
    def test_against_sorting(self):
        dice = random.Random(12)
        for columns in (ONE, TWO, BACK, FOUR):
            for _ in range(10):
                chosen = dice.sample(names(columns), dice.randint(1, min(3, len(columns))))
                order = [(name, dice.choice(("up", "down"))) for name in chosen]
                self.check_sequence(dice, columns, order)

    def check_sequence(self, dice, columns, order):
        database = Database(Catalog([("r", Rules(columns), [("other", [(columns[0][0], "up")]), ("by", order)])]))
        check_same(self, database.sequence("r", "by"), [])
        for _ in range(12):
            database.insert("r", [dice.choice(NUMBERS) if kind == "number" else dice.choice(TEXTS) for _, kind in columns])
        for place in dice.sample(range(12), 3):
            database.remove("r", place)
        found = database.sequence("r", "by")
        self.assertIs(type(found), list)
        self.assertEqual(sorted(found), [place for place, _ in database.rows("r")])
        spots = [(names(columns).index(name), direction) for name, direction in order]
        for one, other in zip(found, found[1:]):
            self.assertTrue(self.is_ahead(spots, database.row("r", one), database.row("r", other), one, other))

    def is_ahead(self, spots, row, later, one, other):
        for at, direction in spots:
            if row[at] != later[at]:
                return (row[at] < later[at]) == (direction == "up")
        return one < other

    def test_by_hand(self):
        database = sample()
        for row in ((3, "b"), (1, "a"), (3, "ab"), (1, "b"), (3, "b"), (-5, "")):
            database.insert("r", row)
        check_same(self, database.sequence("r", "by"), [5, 3, 1, 0, 4, 2])
        database.remove("r", 0)
        check_same(self, database.sequence(table="r", name="by"), [5, 3, 1, 4, 2])

    def test_down_keeps_places_up(self):
        database = Database(Catalog([("r", Rules(ONE), [("by", [("a", "down")])])]))
        for number in (1, 2, 1, 2):
            database.insert("r", (number,))
        check_same(self, database.sequence("r", "by"), [1, 3, 0, 2])

    def test_unknown_names(self):
        database = filled()
        for value in odd_values() + ["BY", "b", "r", "by ", ("by",), ["by"], ""]:
            check_error(self, UnknownName, {"value": value}, database.sequence, "r", value)
            check_error(self, UnknownName, {"value": value}, database.sequence, "s", value)
        check_error(self, UnknownName, {"value": "by"}, database.sequence, "s", "by")


class Clones(unittest.TestCase):
    def test_a_clone_is_equal_and_goes_its_own_way(self):
        database = filled()
        other = database.clone()
        self.assertIs(type(other), Database)
        self.assertIsNot(other, database)
        check_true(self, other == database)
        check_same(self, other.insert("r", (9, "z")), 3)
        other.remove("s", 0)
        self.assertEqual(database, filled())
        check_same(self, database.insert("r", (8, "y")), 3)
        check_same(self, other.rows("r"), [(0, (3, "b")), (2, (3, "ab")), (3, (9, "z"))])
        check_same(self, other.rows("s"), [])

    def test_a_clone_has_the_next_places(self):
        database = sample()
        database.insert("s", (1,))
        database.remove("s", 0)
        check_same(self, database.clone().insert("s", (1,)), 1)
        check_same(self, sample().clone().insert("s", (1,)), 0)

    def test_a_clone_keeps_the_rules(self):
        database = sample([KEY])
        database.insert("r", (1, "a"))
        check_error(self, RuleBroken, {"table": "r", "place": 0, "rule": KEY}, database.clone().insert, "r", (1, "a"))


class EqualDatabases(unittest.TestCase):
    def test_equal_if_catalogs_rows_and_next_places_are(self):
        check_true(self, sample() == sample())
        check_true(self, filled() == filled())
        check_false(self, filled() != filled())
        check_false(self, sample() == filled())
        check_false(self, sample() == sample([KEY]))
        check_true(self, sample() != sample([KEY]))

    def test_the_rows_count(self):
        one, other = sample(), sample()
        one.insert("r", (1, "a"))
        other.insert("r", (1, "b"))
        check_false(self, one == other)
        other.remove("r", 0)
        one.remove("r", 0)
        check_true(self, one == other)

    def test_the_places_count(self):
        one, other = sample(), sample()
        one.insert("s", (1,))
        for _ in range(2):
            other.insert("s", (1,))
        other.remove("s", 0)
        check_false(self, one == other)
        other.remove("s", 1)
        one.remove("s", 0)
        check_false(self, one == other)
        check_false(self, one == sample())

    def test_the_table_counts(self):
        catalog = Catalog([("r", Rules(ONE), []), ("s", Rules(ONE), [])])
        one, other = Database(catalog), Database(catalog)
        one.insert("r", (1,))
        other.insert("s", (1,))
        check_false(self, one == other)

    def test_not_equal_to_values_of_other_kinds(self):
        for value in odd_values() + [filled().catalog, filled().rows("r")]:
            check_false(self, filled() == value)
            check_false(self, value == filled())
            check_true(self, filled() != value)

    def test_databases_are_independent_of_each_other(self):
        catalog = sample().catalog
        one, other = Database(catalog), Database(catalog)
        one.insert("s", (1,))
        check_same(self, other.rows("s"), [])


if __name__ == "__main__":
    unittest.main()
