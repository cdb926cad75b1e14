"""[32], [12] and [4]: stores as databases, updates, batches, and which pair of rows is named that would break a rule."""

import copy
import random
import unittest
from itertools import combinations

from pairsigns.errors import InvalidRow, InvalidWrite, PairBroken, RuleBroken, UnknownName, UnknownPlace, UnknownTable
from pairsigns.queries import plain_output
from pairsigns.rules import Rules
from pairsigns.running import plan_output
from pairsigns.stores import Store
from pairsigns.tables import Catalog, Database
from tests.plan_samples import catalog_of, query_of
from tests.rule_samples import ALL_COLUMNS, ONE, TWO, names, rows_break, some_rules
from tests.samples import check_error, check_false, check_same, check_true, odd_values

KEY = ("key", ("a",))
RISING = ("orders", (("coming", "up"),), (("a", "up"),))
TEXTS = ("", "a", "ab")


def sample(rules=(), kind=Store):
    return kind(Catalog([("r", Rules(TWO, rules), [("by", [("a", "up"), ("b", "down")])]), ("s", Rules(ONE, [KEY] if rules else []), [])]))


def filled(rules=(), kind=Store):
    store = sample(rules, kind)
    for row in ((1, "a"), (2, "b"), (3, "c")):
        store.insert("r", row)
    store.insert("s", (7,))
    store.remove("r", 1)
    return store


def as_numbers(columns, row, place):
    """A row by names, with its place; texts as numbers in the same sequence."""
    told = dict(zip(names(columns), row, strict=True)) | {"coming": place}
    return {name: TEXTS.index(value) if isinstance(value, str) else value for name, value in told.items()}


class Model:
    """A store of tables with the same columns, written down word by word."""

    def __init__(self, columns, listed):
        self.columns, self.rules = columns, listed
        self.rows, self.next = {table: {} for table in listed}, {table: 0 for table in listed}

    def broken(self, table, place, other):
        """The first rule that two rows of a table break."""
        one, two = [as_numbers(self.columns, self.rows[table][at], at) for at in (place, other)]
        return next((rule for rule in self.rules[table] if rows_break(rule, one, two)), None)

    def broken_pair(self):
        """The first two rows that break a rule, and this rule."""
        for table in self.rows:
            for one, other in combinations(sorted(self.rows[table]), 2):
                rule = self.broken(table, one, other)
                if rule:
                    return {"table": table, "one": one, "other": other, "rule": rule}
        return None

    def write(self, word, table, *rest):
        """Performs one write without asking the rules."""
        if word != "insert":
            del self.rows[table][rest[0]]
        if word == "remove":
            return None
        place = self.next[table]
        self.rows[table][place], self.next[table] = tuple(rest[-1]), place + 1
        return place

    def copy(self):
        return copy.deepcopy(self)


class AsADatabase(unittest.TestCase):
    def test_it_is_a_database(self):
        store = filled()
        self.assertIsInstance(store, Database)
        self.assertEqual(store.catalog, sample().catalog)
        check_same(self, store.rows("r"), [(0, (1, "a")), (2, (3, "c"))])
        check_same(self, (store.row("r", 2), len(store), store.sequence("r", "by")), ((3, "c"), 3, [0, 2]))
        check_same(self, store.insert(row=(0, "z"), table="r"), 3)
        check_same(self, store.remove(place=3, table="r"), (0, "z"))
        check_same(self, store.sequence(name="by", table="r"), [0, 2])
        self.assertEqual(len(Store(catalog=store.catalog)), 0)

    def test_errors_of_a_database(self):
        store = filled([KEY])
        for value in odd_values() + ["z"]:
            told = {"value": value}
            for method, rest in ((store.insert, (None,)), (store.remove, (None,)), (store.row, (None,)), (store.rows, ()), (store.sequence, (None,)),
                                 (store.update, (None, None))):
                check_error(self, UnknownTable, told, method, value, *rest)
            if type(value) is not int or value not in (0, 2):
                for method, rest in ((store.remove, ()), (store.row, ()), (store.update, (None,))):
                    check_error(self, UnknownPlace, told, method, "r", value, *rest)
            check_error(self, UnknownName, told, store.sequence, "s", value)
        check_error(self, InvalidRow, {"position": 1}, store.insert, "r", (1, 1))
        check_error(self, RuleBroken, {"table": "r", "place": 0, "rule": KEY}, store.insert, "r", (1, "z"))
        self.assertEqual(store, filled([KEY]))

    def test_queries_and_plans_over_a_store(self):
        store, query = Store(catalog_of()), query_of(("r", "s"), wanted=("r.a", "s.d"))
        for table, row in (("r", (1, 5, "x")), ("r", (2, 6, "x")), ("s", (5, 8)), ("s", (5, 9))):
            store.insert(table, row)
        check_same(self, plain_output(store, query), [(1, 8), (1, 9)])
        check_same(self, plan_output(store, query, ("seek", ("heap", "r"), "s", "bd", 1)), [(1, 8), (1, 9)])

    def test_equality(self):
        check_true(self, filled() == filled())
        check_false(self, filled() != filled())
        check_false(self, filled() == filled(kind=Database))
        check_false(self, filled(kind=Database) == filled())
        check_true(self, filled(kind=Database) != filled())
        check_false(self, sample() == sample([KEY]))
        check_false(self, sample() == filled())
        one, other = filled(), filled()
        one.insert("s", (1,))
        check_false(self, one == other)
        one.remove("s", 1)
        check_false(self, one == other)
        other.update("s", 0, (1,))
        other.update("s", 1, (7,))
        check_false(self, one == other)
        for value in odd_values():
            check_false(self, filled() == value)
            check_true(self, value != filled())

    def test_views_do_not_count(self):
        one, other = filled(), filled()
        one.keep("v", query_of(("s",), one.catalog, equalities=[], wanted=("s.a",)), ("heap", "s"))
        check_true(self, one == other)


class Updating(unittest.TestCase):
    def test_a_new_place(self):
        store = filled([KEY])
        check_same(self, store.update("r", 0, (5, "z")), 3)
        check_same(self, store.update(row=[6, "y"], place=3, table="r"), 4)
        check_same(self, store.rows("r"), [(2, (3, "c")), (4, (6, "y"))])
        check_error(self, UnknownPlace, {"value": 0}, store.update, "r", 0, (1, "a"))
        check_same(self, store.insert("r", (7, "")), 5)

    def test_rows_that_stay(self):
        store = filled([KEY])
        check_same(self, store.update("r", 0, (1, "b")), 3)
        check_error(self, RuleBroken, {"table": "r", "place": 2, "rule": KEY}, store.update, "r", 3, (3, "b"))
        check_error(self, RuleBroken, {"table": "r", "place": 3, "rule": KEY}, store.update, "r", 2, (1, "z"))
        check_same(self, store.rows("r"), [(2, (3, "c")), (3, (1, "b"))])
        check_same(self, store.update("r", 2, (2, "z")), 4)

    def test_the_smallest_place_and_the_first_rule(self):
        store = sample([KEY, ("key", ("b",))])
        for row in ((1, "a"), (2, "b"), (3, "c")):
            store.insert("r", row)
        check_error(self, RuleBroken, {"table": "r", "place": 0, "rule": ("key", ("b",))}, store.update, "r", 2, (2, "a"))
        check_error(self, RuleBroken, {"table": "r", "place": 0, "rule": KEY}, store.update, "r", 2, (1, "a"))
        check_same(self, store.update("r", 2, (3, "c")), 3)

    def test_the_new_row_is_the_last_one(self):
        store = sample([RISING])
        for number in (1, 2, 3):
            store.insert("r", (number, "a"))
        check_error(self, RuleBroken, {"table": "r", "place": 1, "rule": RISING}, store.update, "r", 0, (1, "a"))
        check_same(self, store.update("r", 0, (3, "a")), 3)

    def test_errors_in_sequence(self):
        store = filled([KEY])
        check_error(self, UnknownTable, {"value": "z"}, store.update, "z", None, None)
        check_error(self, UnknownPlace, {"value": 1}, store.update, "r", 1, None)
        check_error(self, UnknownPlace, {"value": False}, store.update, "r", False, None)
        check_error(self, InvalidRow, {"position": -1}, store.update, "r", 0, (3,))
        check_error(self, InvalidRow, {"position": 1}, store.update, "r", 0, (3, 3))
        check_error(self, RuleBroken, {"table": "r", "place": 2, "rule": KEY}, store.update, "r", 0, (3, "a"))
        self.assertEqual(store, filled([KEY]))
        row = [9, "i"]
        store.update("r", 0, row)
        row[0] = 3
        check_same(self, store.row("r", 3), (9, "i"))


class Writing(unittest.TestCase):
    def test_places(self):
        store = filled()
        found = store.write([("insert", "r", (8, "h")), ("remove", "r", 0), ("update", "r", 3, [9, "i"]), ("remove", "r", 4), ("insert", "s", (1,)),
                             ("insert", "r", (9, ""))])
        check_same(self, found, [3, None, 4, None, 1, 5])
        check_same(self, store.rows("r"), [(2, (3, "c")), (5, (9, ""))])
        check_same(self, store.rows("s"), [(0, (7,)), (1, (1,))])
        check_same(self, store.insert("r", (0, "")), 6)

    def test_empty_batches(self):
        store = filled()
        check_same(self, store.write([]), [])
        check_same(self, store.write(writes=()), [])
        check_same(self, store.write(store.batch()), [])
        self.assertEqual(store, filled())

    def test_what_is_put_in_and_removed_takes_its_place(self):
        store = filled([KEY])
        check_same(self, store.write([("insert", "r", (1, "z")), ("remove", "r", 3)]), [3, None])
        check_same(self, store.rows("r"), filled([KEY]).rows("r"))
        self.assertNotEqual(store, filled([KEY]))
        check_same(self, store.insert("r", (4, "d")), 4)

    def test_only_the_rows_at_the_end_keep_the_rules(self):
        store = filled([KEY])
        check_same(self, store.write([("insert", "r", (1, "z")), ("insert", "r", (1, "y")), ("remove", "r", 0), ("update", "r", 3, (5, "x"))]), [3, 4, None, 5])
        check_same(self, store.rows("r"), [(2, (3, "c")), (4, (1, "y")), (5, (5, "x"))])
        check_same(self, store.write([("update", "r", 4, (5, "x")), ("update", "r", 5, (1, "y"))]), [6, 7])

    def test_which_pair_is_named(self):
        store = filled([KEY, ("key", ("b",))])
        self.broken(store, [("insert", "r", (3, "a"))], "r", 0, 3, ("key", ("b",)))
        self.broken(store, [("insert", "r", (9, "c")), ("insert", "r", (1, "z"))], "r", 0, 4, KEY)
        self.broken(store, [("insert", "r", (1, "a"))], "r", 0, 3, KEY)
        self.broken(store, [("insert", "r", (9, "z")), ("insert", "r", (3, "y")), ("insert", "r", (9, "x"))], "r", 2, 4, KEY)
        self.broken(store, [("insert", "r", (9, "z")), ("insert", "r", (8, "y")), ("insert", "r", (9, "x"))], "r", 3, 5, KEY)
        self.broken(store, [("insert", "s", (7,)), ("insert", "r", (1, "z"))], "r", 0, 3, KEY)
        self.broken(store, [("insert", "s", (7,)), ("insert", "r", (9, "z"))], "s", 0, 1, KEY)
        self.broken(store, [("update", "r", 0, (3, "z"))], "r", 2, 3, KEY)
        check_same(self, store.insert("r", (4, "d")), 3)

    def broken(self, store, writes, table, one, other, rule):
        check_error(self, PairBroken, {"table": table, "one": one, "other": other, "rule": rule}, store.write, writes)
        self.assertEqual(store, filled([KEY, ("key", ("b",))]))

    def test_wrong_writes(self):
        store, good = filled([KEY]), [("insert", "r", (4, "d")), ("remove", "r", 3)]
        for write in (("insert", "z", (1, "a")), ("insert", "r", (1,)), ("insert", "r", (1, 1)), ("insert", "r", "ab"), ("insert", "r"),
                      ("insert", "r", (1, "a"), 1), ["insert", "r", (9, "z")], ("remove", "r", 1), ("remove", "r", 3), ("remove", "r", False), ("remove", "r", -1),
                      ("remove", "r", "0"), ("remove", "s", 1), ("remove", "r"), ("remove", "r", 0, (9, "z")), ("update", "r", 0), ("update", "r", 0, (1, 1)),
                      ("update", "r", 1, (9, "z")), ("update", "z", 0, (9, "z")), ("update", "r", (9, "z"), 0), ("drop", "r", 0), (), ("insert",), ("r", "insert", (9, "z"))):
            check_error(self, InvalidWrite, {"position": 2}, store.write, good + [write])
            check_error(self, InvalidWrite, {"position": 0}, store.write, [write] + good)
            check_error(self, InvalidWrite, {"position": 3}, store.write, tuple(good + [("insert", "r", (1, "a")), write, None]))
        self.assertEqual(store, filled([KEY]))

    def test_places_of_rows_that_are_not_there_yet(self):
        store = filled()
        check_error(self, InvalidWrite, {"position": 0}, store.write, [("remove", "r", 3), ("insert", "r", (1, "a"))])
        check_error(self, InvalidWrite, {"position": 2}, store.write, [("insert", "r", (1, "a")), ("remove", "r", 3), ("update", "r", 3, (1, "a"))])
        check_error(self, InvalidWrite, {"position": 1}, store.write, [("update", "r", 0, (1, "a")), ("remove", "r", 0)])
        self.assertEqual(store, filled())

    def test_values_of_other_kinds(self):
        store = filled()
        for value in odd_values():
            if not isinstance(value, (list, tuple)) and type(value).__name__ != "Batch":
                check_error(self, InvalidWrite, {"position": -1}, store.write, value)
            check_error(self, InvalidWrite, {"position": 0}, store.write, [value])
            for write in (("insert", value, (1, "a")), ("insert", "r", value), (value, "r", 0), ("remove", value, 0), ("update", value, 0, (1, "a")),
                          ("update", "r", 0, value)):
                check_error(self, InvalidWrite, {"position": 0}, store.write, [write])
            if type(value) is not int or value not in (0, 2):
                check_error(self, InvalidWrite, {"position": 0}, store.write, [("remove", "r", value)])
                check_error(self, InvalidWrite, {"position": 0}, store.write, [("update", "r", value, (1, "a"))])
        self.assertEqual(store, filled())

    def test_what_was_passed_is_copied_and_left_as_it_was(self):
        store, row = filled(), [5, "e"]
        writes = [("insert", "r", row), ("remove", "r", 0)]
        kept = copy.deepcopy(writes)
        found = store.write(writes)
        self.assertEqual(writes, kept)
        row[0] = 6
        writes.clear()
        found.clear()
        check_same(self, store.row("r", 3), (5, "e"))

    def test_by_definition(self):
        dice, seen = random.Random(321), {"taken": 0, "broken": 0, "wrong": 0}
        for columns in ALL_COLUMNS:
            possible = some_rules(columns)
            for _ in range(8):
                listed = {table: dice.sample(possible, dice.choice((0, 1, 1, 2))) for table in "qr"}
                model = Model(columns, listed)
                store = Store(Catalog([(table, Rules(columns, rules), []) for table, rules in listed.items()]))
                for _ in range(10):
                    model = self.check_write(dice, model, store, seen)
        self.assertGreater(min(seen.values()), 30, seen)

    def check_write(self, dice, model, store, seen):
        """One batch; returns the model as it is behind it."""
        before, draft, writes, places, wrong = store.clone(), model.copy(), [], [], None
        for position in range(dice.randint(0, 6)):
            table, word = dice.choice("qr"), dice.choice(("insert", "insert", "remove", "update"))
            row = [dice.choice((-1, 0, 1)) if kind == "number" else dice.choice(TEXTS) for _, kind in model.columns]
            place = dice.choice([*draft.rows[table], *draft.rows[table], *draft.rows[table], dice.randint(0, 9)])
            write = (word, table) + {"insert": (row,), "remove": (place,), "update": (place, row)}[word]
            writes.append(write)
            if word != "insert" and place not in draft.rows[table]:
                wrong = position
                break
            places.append(draft.write(*write))
        broken = draft.broken_pair()
        if wrong is not None:
            seen["wrong"] += 1
            check_error(self, InvalidWrite, {"position": wrong}, store.write, writes)
        elif broken:
            seen["broken"] += 1
            check_error(self, PairBroken, broken, store.write, writes)
        else:
            seen["taken"] += 1
            check_same(self, store.write(writes), places)
            for table, rows in draft.rows.items():
                check_same(self, store.rows(table), sorted(rows.items()))
            return draft
        self.assertEqual(store, before)
        return model


class Batches(unittest.TestCase):
    def test_noted_writes(self):
        batch = sample().batch()
        check_same(self, batch.writes, [])
        check_same(self, batch.insert("r", (1, "a")), None)
        check_same(self, batch.remove("r", 0), None)
        check_same(self, batch.update("r", 0, [2, "b"]), None)
        batch.insert(row=None, table="z")
        batch.remove(place="x", table=5)
        batch.update(row=True, place=False, table=None)
        check_same(self, batch.writes, [("insert", "r", (1, "a")), ("remove", "r", 0), ("update", "r", 0, [2, "b"]), ("insert", "z", None),
                                        ("remove", 5, "x"), ("update", None, False, True)])

    def test_writing_a_batch(self):
        store = filled()
        batch = store.batch()
        batch.insert("r", (8, "h"))
        batch.update("r", 3, (9, "i"))
        batch.remove("r", 0)
        check_same(self, store.write(batch), [3, 4, None])
        check_same(self, store.rows("r"), [(2, (3, "c")), (4, (9, "i"))])
        check_error(self, InvalidWrite, {"position": 1}, store.write, batch)
        self.assertEqual(len(batch.writes), 3)
        other = filled()
        check_same(self, other.write(batch), [3, 4, None])
        self.assertEqual(other.rows("r"), store.rows("r"))

    def test_a_batch_that_is_refused(self):
        store = filled([KEY])
        batch = store.batch()
        batch.insert("r", (1, "z"))
        check_error(self, PairBroken, {"table": "r", "one": 0, "other": 3, "rule": KEY}, store.write, batch)
        batch.remove("r", 0)
        check_same(self, store.write(batch), [3, None])

    def test_the_list_is_new_each_time(self):
        batch, row = sample().batch(), [1, ["a", {"b": [2]}]]
        batch.insert("r", row)
        row[1][1]["b"].append(3)
        row.append(4)
        found = batch.writes
        check_same(self, found, [("insert", "r", [1, ["a", {"b": [2]}]])])
        found[0][2][1][1]["b"].append(5)
        found[0][2].clear()
        found.clear()
        check_same(self, batch.writes, [("insert", "r", [1, ["a", {"b": [2]}]])])
        self.assertIsNot(batch.writes, batch.writes)
        with self.assertRaises(AttributeError):
            batch.writes = []

    def test_batches_are_independent(self):
        store = filled()
        one, other = store.batch(), store.batch()
        one.insert("r", (1, "a"))
        check_same(self, other.writes, [])
        check_false(self, one == other)
        check_true(self, one == one)
        self.assertEqual(store, filled())
        for value in odd_values():
            one.insert(value, value)
            check_false(self, one == value)


class Clones(unittest.TestCase):
    def test_a_clone_is_a_store_that_goes_its_own_way(self):
        store = filled([KEY])
        other = store.clone()
        self.assertIs(type(other), Store)
        check_true(self, store == other)
        check_same(self, other.insert("r", (9, "z")), 3)
        other.remove("s", 0)
        other.write([("update", "r", 0, (8, "y"))])
        self.assertEqual(store, filled([KEY]))
        check_same(self, store.update("r", 2, (4, "d")), 3)
        check_same(self, other.rows("r"), [(2, (3, "c")), (3, (9, "z")), (4, (8, "y"))])
        check_error(self, RuleBroken, {"table": "r", "place": 2, "rule": KEY}, other.insert, "r", (3, "a"))

    def test_the_catalog_is_shared_and_cannot_be_set(self):
        store = sample()
        self.assertEqual(store.clone().catalog, store.catalog)
        with self.assertRaises(AttributeError):
            store.catalog = None


if __name__ == "__main__":
    unittest.main()
