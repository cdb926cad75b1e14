"""[17]: streams, their rows, their list, their things and classes."""

import copy
import random
import unittest

from pairsigns.errors import InvalidPlan, OutOfOrder, Unlike
from pairsigns.queries import Query
from pairsigns.rules import Rules
from pairsigns.running import run_plan
from pairsigns.signs import Order
from pairsigns.streams import Stream
from pairsigns.tables import Catalog, Database
from tests.plan_samples import (catalog_of, groups_of, list_of, query_of, random_database, random_setting, random_stream, random_whole_plan,
                                references_to, sign_by, stream_rows, tables_in, things_in)
from tests.samples import check_error, check_false, check_same, check_true, odd_values

READ = ("heap", "r")
TWO = ("merge", (("r.b", "s.b", "up"),), ("sort", (("r.b", "up"),), READ), ("index", "s", "bd"))
SHAPE = ("sort", (), ("merge", (("r.b", "s.b", "up"),), ("sort", (), READ), ("index", "s", "bd")))


def stream_of(plan, query=None):
    return Stream(catalog_of(), query or query_of(), plan)


def list_text(plan, query=None):
    return str(stream_of(plan, query).order)


class Lists(unittest.TestCase):
    def test_each_kind(self):
        for plan, text in (
                (READ, "r.coming"), (("index", "r", "by"), "r.b, r.a down, r.coming"), (("sort", (("r.c", "down"),), READ), "r.c down, r.coming"),
                (("sort", (("r.a", "up"), ("r.c", "up")), ("index", "r", "by")), "r.a, r.c, r.b, r.coming"),
                (TWO, "r.b, r.coming, s.b, s.d, s.coming"), (("seek", READ, "s", "bd", 1), "r.coming, s.b, s.d, s.coming"),
                (("sort", (("s.d", "down"), ("r.b", "up")), TWO), "s.d down, r.b, r.coming, s.b, s.coming"),
                (SHAPE, "r.coming, s.b, s.d, s.coming"), (("sort", (), ("index", "r", "ca")), "r.c, r.coming"),
                (("seek", ("sort", (("s.d", "up"),), TWO), "t", "de", 1), "s.d, r.b, r.coming, s.b, s.coming, t.d down, t.e, t.coming")):
            stream = stream_of(plan)
            self.assertEqual(str(stream.order), text)
            self.assertIs(type(stream.order), Order)

    def test_by_chance(self):
        dice = random.Random(1)
        for _ in range(150):
            catalog, query = random_setting(dice)
            plan = random_stream(dice, catalog, query)
            check_same(self, Stream(catalog, query, plan).order.entries, tuple(list_of(catalog, plan)))

    def test_rows_rise_strictly_by_the_list(self):
        dice, compared = random.Random(2), 0
        for _ in range(150):
            catalog, query = random_setting(dice)
            plan = random_stream(dice, catalog, query)
            entries = Stream(catalog, query, plan).order.entries
            database = random_database(dice, catalog)
            rows = stream_rows(database, query, plan)
            for one, other in zip(rows, rows[1:]):
                compared += 1
                self.assertEqual(sign_by(database, tables_in(plan), entries, one, other), -1)
        self.assertGreater(compared, 200)


class Rows(unittest.TestCase):
    """The rows of streams, put out by runs."""

    def setUp(self):
        self.database = Database(catalog_of())
        for row in ((1, 5, "x"), (2, 4, "y"), (0, 5, "x"), (1, 4, "x")):
            self.database.insert("r", row)
        for row in ((5, 7), (4, 8), (5, 6), (9, 9)):
            self.database.insert("s", row)
        for row in ((7, "u"), (8, "v"), (8, "u")):
            self.database.insert("t", row)

    def check(self, plan, rows, **changed):
        tables = tables_in(plan)
        self.assertEqual(list(run_plan(self.database, query_of(tuple(sorted(tables)), **changed), plan)), rows)

    def test_heaps_and_indexes(self):
        self.check(READ, [(0,), (1,), (2,), (3,)])
        self.check(("index", "r", "by"), [(1,), (3,), (0,), (2,)])
        self.check(("index", "r", "ca"), [(0,), (2,), (3,), (1,)])

    def test_only_rows_that_fit_by_themselves(self):
        self.check(READ, [(0,), (3,)], filters=[("r.a", "=", 1)])
        self.check(READ, [(0,), (2,), (3,)], filters=[("r.a", "<=", 1), ("r.a", ">=", 0), ("r.c", "=", "x")])
        self.check(READ, [], filters=[("r.a", "<", 0)])
        self.check(READ, [], filters=[("r.c", "=", "x"), ("r.c", "=", "y")])
        self.check(READ, [], equalities=[("r.a", "r.b")])

    def test_ranges_are_those_of_the_whole_query(self):
        query = query_of(filters=[("s.b", ">", 4)])
        self.assertEqual(list(run_plan(self.database, query, READ)), [(0,), (2,)])
        query = query_of(equalities=[("r.a", "s.b"), ("s.b", "r.b"), ("s.d", "t.d")])
        self.database.insert("r", (3, 3, "z"))
        self.assertEqual(list(run_plan(self.database, query, READ)), [(4,)])

    def test_sorts_are_stable(self):
        self.check(("sort", (("r.b", "up"),), READ), [(1,), (3,), (0,), (2,)])
        self.check(("sort", (("r.c", "down"),), ("index", "r", "by")), [(1,), (3,), (0,), (2,)])
        self.check(("sort", (("r.b", "down"), ("r.a", "up")), READ), [(2,), (0,), (3,), (1,)])

    def test_merges_and_seeks(self):
        self.check(TWO, [(1, 1), (3, 1), (0, 2), (0, 0), (2, 2), (2, 0)])
        self.check(("seek", READ, "s", "bd", 1), [(0, 2), (0, 0), (1, 1), (2, 2), (2, 0), (3, 1)])
        self.check(("seek", READ, "s", "bd", 2), [(1, 1), (3, 1)], filters=[("s.d", "=", 8)])

    def test_classes_are_used_as_soon_as_both_tables_are_there(self):
        query = query_of(equalities=[("r.b", "s.b"), ("s.d", "t.d"), ("r.a", "t.d")])
        self.database.insert("r", (7, 5, "x"))
        plan = ("seek", READ, "s", "bd", 1)
        self.assertEqual(list(run_plan(self.database, query, plan)), [(4, 0)])
        self.assertEqual(list(run_plan(self.database, query, ("seek", plan, "t", "de", 1))), [(4, 0, 0)])

    def test_by_chance(self):
        dice, sound, many = random.Random(3), 0, 0
        for _ in range(400):
            catalog, query = random_setting(dice)
            plan, database = random_stream(dice, catalog, query), random_database(dice, catalog)
            try:
                rows = list(run_plan(database, query, plan))
            except OutOfOrder:
                continue
            sound, many = sound + 1, many + len(rows)
            check_same(self, rows, stream_rows(database, query, plan))
        self.assertGreater(sound, 300)
        self.assertGreater(many, 400)


class Parts(unittest.TestCase):
    def test_things_and_references(self):
        stream = stream_of(TWO)
        check_same(self, stream.tables, ("r", "s"))
        check_same(self, stream.references, ("r.a", "r.b", "r.c", "s.b", "s.d"))
        check_same(self, stream.things, ("r.a", "r.b", "r.c", "r.coming", "s.b", "s.d", "s.coming"))
        check_same(self, stream.classes, (("r.a",), ("r.b", "s.b"), ("r.c",), ("s.d",)))
        check_same(self, stream.plan, TWO)
        self.assertEqual(stream.query, query_of())
        self.assertEqual(stream.catalog, catalog_of())
        turned = stream_of(("merge", (("s.b", "r.b", "up"),), ("heap", "s"), READ))
        check_same(self, turned.things, ("s.b", "s.d", "s.coming", "r.a", "r.b", "r.c", "r.coming"))
        check_same(self, turned.references, ("s.b", "s.d", "r.a", "r.b", "r.c"))
        check_same(self, turned.classes, stream.classes)

    def test_classes_over_a_table_that_is_not_there(self):
        query = query_of(equalities=[("r.b", "s.b"), ("s.d", "t.d"), ("t.d", "r.a"), ("r.b", "t.d")])
        check_same(self, stream_of(READ, query).classes, (("r.a", "r.b"), ("r.c",)))

    def test_by_chance(self):
        dice = random.Random(4)
        for _ in range(150):
            catalog, query = random_setting(dice)
            plan = random_stream(dice, catalog, query)
            stream = Stream(catalog, query, plan)
            tables = tables_in(plan)
            check_same(self, stream.tables, tables)
            check_same(self, stream.things, tuple(things_in(query, tables)))
            check_same(self, stream.references, tuple(reference for table in tables for reference in references_to(query, table)))
            check_same(self, stream.classes, tuple(sorted(tuple(sorted(group)) for group in groups_of(query, tables))))


class Making(unittest.TestCase):
    def test_shapes_and_parts_of_them(self):
        for shape in (SHAPE, SHAPE[2], ("sort", (), READ), ("merge", (("s.d", "t.d", "up"),), SHAPE, ("sort", (), ("heap", "t")))):
            check_same(self, stream_of(shape).plan, shape)

    def test_empty_orders_beside_others(self):
        for plan, path in ((("sort", (), ("sort", (("r.a", "up"),), READ)), ()), (("sort", (("r.a", "up"),), ("sort", (), READ)), (2,)),
                           (("sort", [], READ), ()), (("sort", (), ("sort", [], READ)), (2,)), (("sort", (), ("heap", "z")), (2,)),
                           (("merge", (("r.b", "s.b", "up"),), ("sort", (), READ), ("sort", (("s.b", "up"),), ("heap", "s"))), (2,)),
                           (("merge", (("r.b", "s.b", "up"),), ("sort", (), READ), ("sort", (), ("heap", "z"))), (3, 2)),
                           (("merge", (), ("sort", (), READ), ("sort", (), ("heap", "s"))), ())):
            check_error(self, InvalidPlan, {"path": path}, stream_of, plan)

    def test_plans_that_are_no_streams(self):
        order = (("r.a", "up"),)
        query = query_of(("r",), runs="distinct", first=2, order=order)
        for plan in (("distinct", READ), ("sort", order, ("distinct", READ)), ("first", ("distinct", READ)),
                     ("first", ("sort", order, ("distinct", READ))), ("distinct", ("sort", (), READ))):
            check_error(self, InvalidPlan, {"path": ()}, stream_of, plan, query)
        check_error(self, InvalidPlan, {"path": ()}, stream_of, ("first", READ), query_of(("r",), first=1))
        check_error(self, InvalidPlan, {"path": (1,)}, stream_of, ("distinct", ("first", READ)), query)

    def test_values_of_other_kinds(self):
        for value in odd_values():
            check_error(self, InvalidPlan, {"path": ()}, stream_of, value)
            check_error(self, InvalidPlan, {"path": (2,)}, stream_of, ("sort", (("r.a", "up"),), value))

    def test_unlike_comes_first(self):
        other = Catalog([("r", Rules((("a", "number"),)), [])])
        check_error(self, Unlike, {}, Stream, other, query_of(), READ)
        check_error(self, Unlike, {}, Stream, other, query_of(), None)

    def test_equality(self):
        stream = stream_of(TWO)
        self.assertEqual(stream, stream_of(copy.deepcopy(TWO)))
        rules = catalog_of({"r": [("key", ("a",))]})
        for other in (stream_of(READ), stream_of(TWO, query_of(filters=[("r.a", "=", 1)])), Stream(rules, query_of(), TWO), TWO, None, 1):
            check_false(self, stream == other)
            check_true(self, stream != other)

    def test_streams_stay_as_they_are(self):
        plan, query = TWO, query_of()
        stream = Stream(catalog=catalog_of(), query=query, plan=plan)
        before = [stream.tables, stream.order, stream.references, stream.things, stream.classes]
        list(run_plan(Database(catalog_of()), query, plan))
        stream.order.then([("s.d", "down")])
        for _ in range(2):
            self.assertEqual([stream.tables, stream.order, stream.references, stream.things, stream.classes], before)
        for part in (stream.tables, stream.references, stream.things, stream.classes, stream.plan):
            self.assertIs(type(part), tuple)

    def test_whole_plans_by_chance(self):
        dice = random.Random(9)
        for _ in range(100):
            catalog, query = random_setting(dice)
            plan = random_whole_plan(dice, catalog, query)
            if plan[0] == "first" or query.runs != "none":
                check_error(self, InvalidPlan, {"path": ()}, Stream, catalog, query, plan)
            else:
                check_same(self, Stream(catalog, query, plan).plan, plan)

    def test_a_query_that_fits_needs_no_more_of_the_catalog(self):
        query = Query(catalog_of(), ("r",), wanted=("r.a",))
        only = Catalog([("r", catalog_of().rules_of("r"), [])])
        self.assertEqual(Stream(only, query, READ).tables, ("r",))
        check_error(self, InvalidPlan, {"path": ()}, Stream, only, query, ("index", "r", "by"))


if __name__ == "__main__":
    unittest.main()
