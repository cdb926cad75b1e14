"""[33], [34] (numbers) and [4]: kept views, their rows and their news, while rows of a store come and go."""

import copy
import random
import unittest

from pairsigns.errors import InvalidName, InvalidPlan, InvalidRow, NameTaken, NotServing, PairBroken, RuleBroken, UnknownName, UnknownPlace, Unlike
from pairsigns.planning import least_plan, serves
from pairsigns.queries import is_answer
from pairsigns.rules import Rules
from pairsigns.running import plan_output, run_plan
from pairsigns.stores import Store
from pairsigns.tables import Catalog
from tests.plan_samples import catalog_of, query_of, random_setting, random_stream, stream_rows, tables_in, value_in
from tests.rule_samples import ONE, names
from tests.samples import check_error, check_false, check_same, check_true, odd_values

READ = ("heap", "r")
BY = ("index", "r", "by")
PLAIN = query_of(("r",), wanted=("r.b", "r.a"), order=(("r.b", "up"),))
TWO = ("seek", READ, "s", "bd", 1)
RESERVED = ("coming", "down", "up", "none", "key", "never", "orders")


def filled(rules=None):
    store = Store(catalog_of(rules))
    for table, row in (("r", (1, 5, "x")), ("r", (2, 4, "y")), ("r", (3, 5, "z")), ("s", (5, 1)), ("s", (4, 2)), ("s", (5, 0))):
        store.insert(table, row)
    return store


def played(before, news):
    """The rows behind some news, of the rows before."""
    gone = {position for word, position, _ in news if word == "went"}
    rows = [row for position, row in enumerate(before) if position not in gone]
    for word, position, row in news:
        if word == "came":
            rows.insert(position, row)
    return rows


def write_by_chance(dice, store):
    """Some write to the store, or one that is refused."""
    table = dice.choice(store.catalog.tables)
    row = [dice.randint(0, 2) if kind == "number" else dice.choice("xy") for _, kind in store.catalog.rules_of(table).columns]
    places = [place for place, _ in store.rows(table)]
    word = dice.choice(("insert", "insert", "insert", "remove", "update", "write"))
    try:
        if word == "insert" or not places:
            store.insert(table, row)
        elif word == "write":
            batch = store.batch()
            for place in dice.sample(places, dice.randint(0, min(2, len(places)))):
                batch.remove(table, place)
            for _ in range(dice.randint(0, 2)):
                batch.insert(table, row)
            store.write(batch)
        else:
            store.remove(table, dice.choice(places)) if word == "remove" else store.update(table, dice.choice(places), row)
    except (RuleBroken, PairBroken):
        return False
    return True


class Keeping(unittest.TestCase):
    def test_a_view(self):
        store = filled()
        view = store.keep("v", PLAIN, BY)
        check_same(self, (view.name, view.plan, view.number, len(view)), ("v", BY, 0, 3))
        self.assertEqual(view.query, PLAIN)
        check_same(self, view.rows(), [(1,), (2,), (0,)])
        check_same(self, view.wanted_rows(), [(4, 2), (5, 3), (5, 1)])
        check_same(self, view.news(), [])
        self.assertIs(store.view("v"), view)
        self.assertIs(store.view(name="v"), store.view("v"))
        for name in ("name", "query", "plan", "number"):
            with self.assertRaises(AttributeError):
                setattr(view, name, None)

    def test_before_there_are_rows(self):
        store = Store(catalog_of())
        view = store.keep(plan=TWO, name="two", query=query_of(("r", "s"), wanted=("s.d",)))
        check_same(self, (view.rows(), view.wanted_rows(), view.news(), len(view)), ([], [], [], 0))
        store.insert("r", (1, 5, "x"))
        check_same(self, view.news(), [])
        store.insert("s", (5, 7))
        check_same(self, view.news(), [("came", 0, (0, 0))])
        check_same(self, view.wanted_rows(), [(7,)])

    def test_names(self):
        store = filled()
        for name in ("z", "a", "abcdefgh"):
            store.keep(name, PLAIN, BY)
        check_same(self, store.names(), ["a", "abcdefgh", "z"])
        store.names().clear()
        check_same(self, store.drop("a"), None)
        check_same(self, store.names(), ["abcdefgh", "z"])
        for value in odd_values() + ["a", "y", "Z"]:
            check_error(self, UnknownName, {"value": value}, store.view, value)
            check_error(self, UnknownName, {"value": value}, store.drop, value)
        check_error(self, UnknownName, {"value": "z"}, filled().view, "z")

    def test_wrong_names(self):
        store = filled()
        for value in odd_values() + ["abcdefghi", "A", "a1", "", *RESERVED]:
            if not (isinstance(value, str) and 1 <= len(value) <= 8 and not value.strip("abcdefghijklmnopqrstuvwxyz") and value not in RESERVED):
                check_error(self, InvalidName, {"value": value}, store.keep, value, None, None)
        store.keep("v", PLAIN, BY)
        check_error(self, NameTaken, {"value": "v"}, store.keep, "v", PLAIN, None)
        other = query_of(("r",), Catalog([("r", Rules(ONE), [])]), equalities=[])
        check_error(self, NameTaken, {"value": "v"}, store.keep, "v", other, None)
        check_error(self, Unlike, {}, store.keep, "w", other, None)
        self.assertEqual(store.names(), ["v"])
        self.assertEqual(store.keep("w", PLAIN, BY).number, 1)

    def test_wrong_plans(self):
        store = filled()
        for value in odd_values():
            check_error(self, InvalidPlan, {"path": ()}, store.keep, "v", PLAIN, value)
            check_error(self, InvalidPlan, {"path": (2,)}, store.keep, "v", PLAIN, ("sort", (("r.b", "up"),), value))
        for plan in (("sort", (), READ), ("heap", "s"), ("first", READ), ("distinct", READ)):
            check_error(self, InvalidPlan, {"path": ()}, store.keep, "v", PLAIN, plan)
            check_error(self, InvalidPlan, {"path": (2,)}, store.keep, "v", PLAIN, ("sort", (("r.b", "up"),), plan))
        check_error(self, NotServing, {}, store.keep, "v", PLAIN, READ)
        check_error(self, NotServing, {}, store.keep, "v", query_of(("r", "s")), READ)
        check_error(self, NotServing, {}, store.keep, "v", query_of(("r", "s")), ("merge", (("r.b", "s.b", "up"),), READ, ("heap", "s")))
        self.assertEqual(store.names(), [])

    def test_queries_with_runs_or_a_first_number(self):
        store = filled()
        for runs in ("distinct", "groups"):
            query = query_of(("r",), wanted=("r.b",), runs=runs)
            check_error(self, NotServing, {}, store.keep, "v", query, (runs, BY))
            check_error(self, NotServing, {}, store.keep, "v", query, BY)
            check_error(self, InvalidPlan, {"path": ()}, store.keep, "v", query, ("first", BY))
        first = PLAIN.changed(first=2)
        check_error(self, NotServing, {}, store.keep, "v", first, ("first", BY))
        check_error(self, NotServing, {}, store.keep, "v", first, BY)
        check_error(self, NameTaken, {"value": store.keep("v", PLAIN, BY).name}, store.keep, "v", first, BY)

    def test_numbers_count_on(self):
        store = filled()
        numbers = [store.keep(name, PLAIN, BY).number for name in "ba"]
        store.drop("b")
        check_error(self, NotServing, {}, store.keep, "b", PLAIN, READ)
        numbers.append(store.keep("b", PLAIN, BY).number)
        store.drop("b")
        numbers.append(store.clone().keep("b", PLAIN, BY).number)
        numbers.append(store.keep("b", PLAIN, BY).number)
        check_same(self, numbers, [0, 1, 2, 3, 3])
        check_same(self, filled().keep("z", PLAIN, BY).number, 0)


class Rows(unittest.TestCase):
    def test_spots(self):
        view = filled().keep("v", PLAIN, BY)
        check_same(self, [view.spot((1,)), view.spot(places=(0,))], [0, 2])
        check_true(self, (1,) in view)
        for value in odd_values() + [(3,), (0, 0), [0], 0, (-1,), ("0",), ((0,),), (False,), (True,), ([],)]:
            if value not in ((0,), (1,), (2,)) or type(value[0]) is bool:
                check_false(self, value in view)
                check_error(self, UnknownPlace, {"value": value}, view.spot, value)

    def test_lists_are_new(self):
        view = filled().keep("v", PLAIN, BY)
        for method in (view.rows, view.wanted_rows, view.news):
            kept = method()
            self.assertIsNot(method(), method())
            method().append(1)
            method().clear()
            check_same(self, method(), kept)

    def test_equality(self):
        store = filled()
        one, other = store.keep("v", PLAIN, BY), store.keep("w", PLAIN, BY)
        check_true(self, one == one)
        check_false(self, one == other)
        check_false(self, one == store.clone().view("v"))
        for value in odd_values():
            check_false(self, one == value)

    def test_of_every_plan(self):
        """Sorts, merges and seeks, over one to three tables, with filters."""
        dice, many = random.Random(331), 0
        while many < 25:
            catalog, query = random_setting(dice, ("none",))
            query = query.changed(first=None)
            plan = random_stream(dice, catalog, query)
            if serves(catalog, query, plan):
                many += self.check_writes(dice, catalog, query, plan)

    def check_writes(self, dice, catalog, query, plan):
        store = Store(catalog)
        for _ in range(dice.choice((0, 4))):
            write_by_chance(dice, store)
        view = store.keep("v", query, plan)
        news = []
        for _ in range(25):
            before = view.rows()
            if write_by_chance(dice, store):
                news = view.news()
                self.check_news(before, view, news)
            check_same(self, view.news(), news)
            self.check_rows(store, query, plan, view)
        return len(view) > 0

    def check_rows(self, store, query, plan, view):
        wanted = stream_rows(store, query, plan)
        check_same(self, view.rows(), wanted)
        check_same(self, view.rows(), list(run_plan(store, query, plan)))
        values = [tuple(value_in(store, tables_in(plan), row, reference) for reference in query.wanted) for row in wanted]
        check_same(self, view.wanted_rows(), values)
        check_same(self, view.wanted_rows(), plan_output(store, query, plan))
        check_true(self, is_answer(store, query, view.wanted_rows()))
        check_same(self, len(view), len(wanted))
        check_same(self, [view.spot(row) for row in wanted], list(range(len(wanted))))

    def check_news(self, before, view, news):
        after = view.rows()
        check_same(self, news, [("went", position, row) for position, row in enumerate(before) if row not in after]
                   + [("came", position, row) for position, row in enumerate(after) if row not in before])
        check_same(self, played(before, news), after)


class News(unittest.TestCase):
    def test_by_hand(self):
        store = filled()
        view = store.keep("v", PLAIN, BY)
        check_same(self, store.insert("r", (9, 5, "")), 3)
        check_same(self, view.news(), [("came", 1, (3,))])
        store.remove("r", 2)
        check_same(self, view.news(), [("went", 2, (2,))])
        check_same(self, store.update("r", 1, (2, 6, "y")), 4)
        check_same(self, view.news(), [("went", 0, (1,)), ("came", 2, (4,))])
        store.insert("s", (1, 1))
        check_same(self, view.news(), [])
        store.write([("remove", "r", 0), ("insert", "r", (0, 6, "")), ("insert", "r", (7, 7, "")), ("remove", "r", 3)])
        check_same(self, view.rows(), [(4,), (5,), (6,)])
        check_same(self, view.news(), [("went", 0, (3,)), ("went", 1, (0,)), ("came", 1, (5,)), ("came", 2, (6,))])
        check_same(self, view.news(), view.news())

    def test_writes_that_change_nothing(self):
        store = filled()
        view = store.keep("v", query_of(("r", "s"), wanted=("r.a",)), TWO)
        for write in (lambda: store.write([]), lambda: store.write(store.batch()), lambda: store.insert("t", (1, "x")), lambda: store.insert("r", (1, 77, "x")),
                      lambda: store.write([("insert", "r", (8, 5, "x")), ("remove", "r", store.insert("r", (8, 5, "x")) + 1)])):
            store.insert("s", (5, 3))
            self.assertEqual([word for word, _, _ in view.news()], ["came"] * len(view.news()))
            self.assertTrue(view.news())
            write()
            store.write([])
            check_same(self, view.news(), [])

    def test_what_is_put_in_and_removed(self):
        store = filled()
        view = store.keep("v", PLAIN, BY)
        store.write([("insert", "r", (1, 1, "x")), ("remove", "r", 3)])
        check_same(self, view.news(), [])
        check_same(self, len(view), 3)

    def test_refused_writes_change_nothing(self):
        store = filled({"r": [("key", ("a",))]})
        view = store.keep("v", PLAIN, BY)
        store.insert("r", (7, 4, "x"))
        news, rows = view.news(), view.rows()
        check_same(self, news, [("came", 0, (3,))])
        for error, call, arguments in ((RuleBroken, store.insert, ("r", (7, 1, "x"))), (InvalidRow, store.insert, ("r", (1,))), (UnknownPlace, store.remove, ("r", 8)),
                                       (RuleBroken, store.update, ("r", 0, (7, 1, "x"))), (PairBroken, store.write, ([("remove", "r", 0), ("insert", "r", (7, 1, "x"))],))):
            with self.assertRaises(error):
                call(*arguments)
            check_same(self, (view.news(), view.rows()), (news, rows))

    def test_keeping_and_dropping_are_no_writes(self):
        store = filled()
        view = store.keep("v", PLAIN, BY)
        store.insert("r", (0, 0, ""))
        news = view.news()
        check_same(self, store.keep("w", PLAIN, BY).news(), [])
        store.drop("w")
        check_same(self, view.news(), news)
        check_same(self, news, [("came", 0, (3,))])


class Dropping(unittest.TestCase):
    def test_a_dropped_view_stays_as_it_was(self):
        store = filled()
        view = store.keep("v", PLAIN, BY)
        store.insert("r", (0, 0, ""))
        kept = (view.rows(), view.wanted_rows(), view.news(), len(view), view.number, view.name, view.plan)
        store.drop("v")
        for place in range(4):
            store.remove("r", place)
        store.insert("r", (1, 1, "x"))
        check_same(self, (view.rows(), view.wanted_rows(), view.news(), len(view), view.number, view.name, view.plan), kept)
        check_same(self, view.spot((3,)), 0)
        check_true(self, (0,) in view)

    def test_kept_again_under_its_name(self):
        store = filled()
        old = store.keep("v", PLAIN, BY)
        store.drop("v")
        check_error(self, UnknownName, {"value": "v"}, store.drop, "v")
        new = store.keep("v", PLAIN, BY)
        store.remove("r", 0)
        check_same(self, (len(old), len(new), old.number, new.number), (3, 2, 0, 1))
        self.assertIs(store.view("v"), new)


class Clones(unittest.TestCase):
    def test_views_numbers_and_news(self):
        store = filled()
        store.keep("gone", PLAIN, BY)
        store.keep("v", PLAIN, BY)
        store.keep("w", query_of(("r", "s"), wanted=("r.a",)), TWO)
        store.drop("gone")
        store.insert("r", (0, 0, ""))
        other = store.clone()
        check_same(self, other.names(), ["v", "w"])
        for name in ("v", "w"):
            one, two = store.view(name), other.view(name)
            self.assertIsNot(one, two)
            check_same(self, (two.name, two.number, two.plan, two.rows(), two.wanted_rows(), two.news()),
                       (one.name, one.number, one.plan, one.rows(), one.wanted_rows(), one.news()))
            self.assertEqual(two.query, one.query)

    def test_its_views_are_its_own(self):
        store = filled()
        view = store.keep("v", PLAIN, BY)
        other = store.clone()
        other.insert("r", (0, 0, ""))
        check_same(self, (len(view), view.news()), (3, []))
        check_same(self, other.view("v").news(), [("came", 0, (3,))])
        store.remove("r", 0)
        check_same(self, (len(view), len(other.view("v"))), (2, 4))
        other.drop("v")
        check_same(self, (store.names(), other.names()), (["v"], []))


class WholeStores(unittest.TestCase):
    def test_several_views_behind_each_write(self):
        """Views of one store are kept, dropped and kept again; rows come and go; clones go their own way."""
        dice = random.Random(332)
        for _ in range(8):
            catalog, query = random_setting(dice, ("none",))
            store, kept = Store(catalog), {}
            for _ in range(30):
                name = dice.choice(["v", "w", "x"])
                if dice.random() < 0.25 and name in kept:
                    store.drop(name)
                    del kept[name]
                elif dice.random() < 0.4 and name not in kept:
                    wanted = tuple(f"{table}.{column}" for table in catalog.tables for column in names(catalog.rules_of(table).columns))[:dice.randint(1, 4)]
                    asked = query.changed(first=None, wanted=wanted, order=tuple((column, dice.choice(("up", "down"))) for column in wanted[:dice.randint(0, 2)]))
                    kept[name] = store.keep(name, asked, least_plan(catalog, asked))
                if dice.random() < 0.1:
                    store = store.clone()
                    kept = {name: store.view(name) for name in kept}
                before = {name: view.rows() for name, view in kept.items()}
                written = write_by_chance(dice, store)
                check_same(self, store.names(), sorted(kept))
                for name, view in kept.items():
                    check_same(self, view.rows(), stream_rows(store, view.query, view.plan))
                    if written:
                        check_same(self, played(before[name], view.news()), view.rows())
            self.assertEqual(copy.deepcopy(catalog), store.catalog)


if __name__ == "__main__":
    unittest.main()
