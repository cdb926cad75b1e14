"""[24] and [25]: wishes of plans and shapes, and the space of shapes of a query."""

import copy
import inspect
import random
import unittest

from pairsigns.errors import InvalidPlan, Unlike
from pairsigns.plans import check_plan
from pairsigns.rules import Rules
from pairsigns.signs import Order
from pairsigns.streams import Stream
from pairsigns.tables import Catalog
from pairsigns.wishes import is_shape, shapes_of, wishes_of
from tests.plan_samples import catalog_of, query_of, random_setting, random_whole_plan
from tests.rule_samples import spoilt
from tests.samples import check_error, check_false, check_same, check_true, odd_values
from tests.shape_samples import shapes_by_definition, wished

READ = ("heap", "r")
PAIRS = (("r.b", "s.b", "up"),)
SHAPE = ("merge", PAIRS, ("sort", (), READ), ("index", "s", "bd"))
ORDER = (("r.a", "down"),)


class Wishes(unittest.TestCase):
    catalog = catalog_of()

    def check(self, query, plan, wanted, catalog=None):
        found = wishes_of(catalog or self.catalog, query, plan)
        self.assertIs(type(found), list)
        for part in found:
            self.assertEqual([type(part), type(part[0]), type(part[1])], [tuple, Stream, Order])
        check_same(self, [(stream.plan, order.entries) for stream, order in found], wanted)
        self.assertEqual(found, wishes_of(plan=plan, query=query, catalog=catalog or self.catalog))

    def wrong(self, query, plan, path):
        check_error(self, InvalidPlan, {"path": path}, wishes_of, self.catalog, query, plan)

    def test_merges_and_the_whole_stream(self):
        query = query_of(("r", "s"), order=ORDER)
        self.check(query, SHAPE, [(SHAPE[2], (("r.b", "up"),)), (SHAPE[3], (("s.b", "up"),)), (SHAPE, ORDER)])
        self.check(query.changed(order=()), SHAPE, [(SHAPE[2], (("r.b", "up"),)), (SHAPE[3], (("s.b", "up"),))])
        self.check(query.changed(first=3), ("first", SHAPE), [(SHAPE[2], (("r.b", "up"),)), (SHAPE[3], (("s.b", "up"),)), (SHAPE, ORDER)])
        self.check(query, ("seek", READ, "s", "bd", 1), [(("seek", READ, "s", "bd", 1), ORDER)])
        self.check(query_of(("r",)), READ, [])
        self.check(query_of(("r",), order=ORDER), ("sort", (), READ), [(("sort", (), READ), ORDER)])

    def test_numbers_of_wishes(self):
        outer = ("merge", (("s.d", "t.d", "down"), ("r.a", "t.d", "up"))[:1], ("sort", (), SHAPE), ("sort", (), ("heap", "t")))
        self.check(query_of(order=ORDER), ("sort", (), outer), [
            (SHAPE[2], (("r.b", "up"),)), (SHAPE[3], (("s.b", "up"),)), (outer[2], (("s.d", "down"),)), (outer[3], (("t.d", "down"),)),
            (("sort", (), outer), ORDER)])

    def test_several_pairs(self):
        query = query_of(("r", "s"), equalities=[("r.b", "s.b"), ("r.a", "s.d")])
        plan = ("merge", (("r.b", "s.b", "up"), ("r.a", "s.d", "down")), READ, ("index", "s", "bd"))
        self.check(query, plan, [(READ, (("r.b", "up"), ("r.a", "down"))), (("index", "s", "bd"), (("s.b", "up"), ("s.d", "down")))])

    def test_queries_with_runs_have_no_last_wish(self):
        query = query_of(("r", "s"), order=ORDER, runs="groups", first=2)
        for plan in (("first", ("groups", SHAPE)), ("first", ("sort", ORDER, ("groups", SHAPE)))):
            self.check(query, plan, [(SHAPE[2], (("r.b", "up"),)), (SHAPE[3], (("s.b", "up"),))])
        filled = ("merge", PAIRS, ("sort", (("r.b", "up"),), READ), ("index", "s", "bd"))
        self.check(query, ("first", ("sort", ORDER, ("groups", filled))), [(filled[2], (("r.b", "up"),)), (filled[3], (("s.b", "up"),))])

    def test_by_chance(self):
        dice = random.Random(71)
        for _ in range(100):
            catalog, query = random_setting(dice)
            plan = random_whole_plan(dice, catalog, query)
            self.check(query, plan, wished(query, plan), catalog)

    def test_wrong_plans(self):
        query = query_of(("r", "s"), order=ORDER, runs="groups")
        for plan, path in ((SHAPE, ()), (READ, ()), (("groups", READ), ()), (("distinct", SHAPE), ()), (("sort", (), ("groups", SHAPE)), ()),
                           (("sort", (("r.a", "up"),), ("groups", SHAPE)), ()), (("groups", ("sort", (("r.b", "up"),), SHAPE)), (1, 2, 2)),
                           (("groups", ("sort", (), ("sort", (("r.b", "up"),), SHAPE))), (1, 2, 2, 2)), (("groups", ("heap", "z")), (1,)),
                           (("sort", ORDER, ("groups", ("merge", PAIRS, ("sort", (), READ), ("heap", "z")))), (2, 1, 3))):
            self.wrong(query, plan, path)
        self.wrong(query_of(), SHAPE, ())
        self.wrong(query_of(("r", "s"), first=1), SHAPE, ())
        self.wrong(query_of(("r",)), ("sort", (("r.a", "up"),), ("sort", (), READ)), (2,))
        self.wrong(query_of(("r",)), ("sort", (), ("sort", (("r.a", "up"),), READ)), ())

    def test_values_of_other_kinds(self):
        for value in odd_values():
            self.wrong(query_of(), value, ())
            self.wrong(query_of(("r",)), ("sort", (), value), (2,))
        other = Catalog([("r", Rules((("a", "number"),)), [])])
        check_error(self, Unlike, {}, wishes_of, other, query_of(), None)

    def test_a_returned_list_may_be_changed(self):
        wishes_of(self.catalog, query_of(("r", "s")), SHAPE).clear()
        self.assertEqual(len(wishes_of(self.catalog, query_of(("r", "s")), SHAPE)), 2)


class Space(unittest.TestCase):
    def check(self, catalog, query):
        found = list(shapes_of(catalog, query))
        wanted = shapes_by_definition(catalog, query)
        self.assertEqual(len({repr(shape) for shape in found}), len(found))
        self.assertEqual(sorted(map(repr, found)), sorted(map(repr, wanted)))
        return found

    def test_one_table(self):
        found = self.check(catalog_of(), query_of(("r",)))
        self.assertEqual(len(found), 6)
        self.assertIn(("sort", (), ("index", "r", "by")), found)
        found = self.check(catalog_of(indexes={"r": []}), query_of(("r",), runs="distinct", order=ORDER, first=2))
        self.assertEqual(sorted(map(repr, found)), sorted(map(repr, [
            ("first", ("distinct", READ)), ("first", ("distinct", ("sort", (), READ))), ("first", ("sort", ORDER, ("distinct", READ))),
            ("first", ("sort", ORDER, ("distinct", ("sort", (), READ))))])))

    def test_two_tables(self):
        bare = catalog_of(indexes={"r": [], "s": []})
        # Two sequences, a sort or none above each read and the merge, and two directions.
        self.assertEqual(len(self.check(bare, query_of(("r", "s")))), 2 * 2 * 2 * 2 * 2)
        # Two classes: each one, and both in each sequence.
        self.assertEqual(len(self.check(bare, query_of(("r", "s"), equalities=[("r.b", "s.b"), ("r.a", "s.d")]))), 2 * 8 * (2 * 2 + 2 * 4))
        self.check(catalog_of(), query_of(("r", "s"), filters=[("s.d", "=", 3)]))
        self.check(catalog_of(), query_of(("r", "s"), equalities=[("r.b", "s.b"), ("r.a", "s.b")], runs="groups", order=ORDER))

    def test_seeks_have_the_greatest_bound(self):
        query = query_of(("r", "s"), filters=[("s.d", "=", 3)])
        found = self.check(catalog_of(), query)
        seeks = [shape for shape in found if shape[0] == "seek" and shape[2] == "s"]
        self.assertEqual({shape[3:] for shape in seeks}, {("bd", 2)})
        check_true(self, is_shape(catalog_of(), query, ("seek", READ, "s", "bd", 2)))
        check_false(self, is_shape(catalog_of(), query, ("seek", READ, "s", "bd", 1)))

    def test_three_tables(self):
        bare = catalog_of(indexes={"r": [], "s": [], "t": []})
        self.assertEqual(len(self.check(bare, query_of())), 4 * 2 * (2 * 2 * 2) ** 2)
        chain = [("r.b", "s.b"), ("s.b", "t.d")]
        self.assertEqual(len(self.check(bare, query_of(equalities=chain))), 6 * 2 * (2 * 2 * 2) ** 2)
        self.check(bare, query_of(equalities=chain, order=ORDER, first=1))

    def test_tables_without_a_class_in_common_are_not_joined(self):
        few = catalog_of(indexes={"r": [], "s": []})
        found = self.check(few, query_of(filters=[("t.d", "=", 4)]))
        self.assertFalse([shape for shape in found if shape[0] == "seek" and shape[1] == READ])

    def test_by_chance(self):
        dice, many = random.Random(72), 0
        for _ in range(60):
            catalog, query = random_setting(dice, most_tables=2, most_columns=(3, 3))
            many += len(self.check(catalog, query))
        self.assertGreater(many, 1000)

    def test_generators(self):
        self.assertTrue(inspect.isgeneratorfunction(shapes_of))
        other = Catalog([("r", Rules((("a", "number"),)), [])])
        check_error(self, Unlike, {}, next, shapes_of(other, query_of()))
        check_error(self, Unlike, {}, is_shape, other, query_of(), None)
        self.assertEqual(list(shapes_of(query=query_of(("r",)), catalog=catalog_of())), list(shapes_of(catalog_of(), query_of(("r",)))))


class IsShape(unittest.TestCase):
    def test_all_shapes_and_what_differs_in_one_part(self):
        catalog = catalog_of(indexes={"r": [("by", [("b", "up")])]})
        others = ((), "r", "s", READ, ("heap", "s"), ("sort", (), READ), ("index", "s", "bd"), (("r.b", "up"),), 1, 2, True, "down", PAIRS,
                  (("r.a", "s.d", "up"), ("r.b", "s.b", "up")), "r.b", "s.b")
        for query in (query_of(("r", "s"), equalities=[("r.b", "s.b"), ("r.a", "s.d")]), query_of(("r", "s"), order=ORDER, runs="groups", first=3)):
            known = {repr(shape) for shape in shapes_by_definition(catalog, query)}
            many = 0
            for shape in random.Random(73).sample(list(shapes_of(catalog, query)), 25):
                check_true(self, is_shape(catalog, query, shape))
                check_true(self, is_shape(value=copy.deepcopy(shape), query=query, catalog=catalog))
                for value in spoilt(shape, others):
                    wanted = repr(value) in known
                    many += wanted
                    check_same(self, is_shape(catalog, query, value), wanted)
            self.assertGreater(many, 20)

    def test_right_plans_that_are_no_shapes(self):
        query = query_of(("r", "s"), equalities=[("r.b", "s.b"), ("r.a", "s.b")])
        for plan, wanted in ((("merge", (("r.a", "s.b", "up"),), READ, ("heap", "s")), True), (("merge", PAIRS, READ, ("heap", "s")), False),
                             (("merge", (("s.b", "r.a", "up"),), ("heap", "s"), READ), True),
                             (("merge", (("s.b", "r.b", "up"),), ("heap", "s"), READ), False),
                             (("sort", (("r.a", "up"),), ("merge", (("r.a", "s.b", "up"),), READ, ("heap", "s"))), False),
                             (("sort", (), ("sort", (), ("merge", (("r.a", "s.b", "up"),), READ, ("heap", "s")))), False),
                             (("merge", (("r.a", "s.b", "up"),), ("sort", (), ("sort", (), READ)), ("heap", "s")), False),
                             (("merge", (("r.a", "s.b", "up"),), READ, ("sort", (), ("sort", (), ("heap", "s")))), False), (READ, False)):
            check_same(self, is_shape(catalog_of(), query, plan), wanted)
        self.assertIsNone(check_plan(catalog_of(), query, ("merge", PAIRS, READ, ("heap", "s"))))

    def test_first_references_go_by_the_tables_of_the_plan(self):
        query = query_of(equalities=[("r.b", "s.b"), ("s.b", "t.d")])
        inside = ("merge", (("s.b", "r.b", "up"),), ("heap", "s"), READ)
        check_true(self, is_shape(catalog_of(), query, ("merge", (("s.b", "t.d", "up"),), inside, ("heap", "t"))))
        check_false(self, is_shape(catalog_of(), query, ("merge", (("r.b", "t.d", "up"),), inside, ("heap", "t"))))
        turned = ("merge", PAIRS, READ, ("heap", "s"))
        check_true(self, is_shape(catalog_of(), query, ("merge", (("r.b", "t.d", "up"),), turned, ("heap", "t"))))
        check_false(self, is_shape(catalog_of(), query, ("merge", (("s.b", "t.d", "up"),), turned, ("heap", "t"))))

    def test_values_of_other_kinds(self):
        for value in odd_values():
            for shape in (value, ("sort", value, READ), ("sort", (), value), ("first", value), ("heap", value)):
                wanted = shape == ("sort", (), READ)
                check_same(self, is_shape(catalog_of(), query_of(("r",)), shape), wanted)


if __name__ == "__main__":
    unittest.main()
