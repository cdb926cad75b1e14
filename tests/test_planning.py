"""[26], [27], [29] and [4]: plans that serve, fillings of shapes, plans of least work, and what if rules were added."""

import copy
import random
import unittest
from itertools import combinations

from pairsigns.errors import Apart, InvalidOffer, InvalidPlan, OutOfOrder, Unlike
from pairsigns.planning import filling, least_plan, least_rules, serves
from pairsigns.plans import check_plan, is_whole, work_of
from pairsigns.queries import is_answer
from pairsigns.questions import ask
from pairsigns.rules import Rules
from pairsigns.running import plan_output
from pairsigns.streams import Stream
from pairsigns.tables import Catalog
from pairsigns.wishes import is_shape, shapes_of
from pairsigns.worlds import database_of
from tests.plan_samples import catalog_of, query_of, random_database, random_rules, random_setting, random_whole_plan
from tests.samples import check_error, check_false, check_same, check_true, odd_values
from tests.shape_samples import below, counts_by_answers, fillings_by_definition, has_sort_above, is_filled, serves_by_answers, tops, wished

READ = ("heap", "r")
ORDER = (("r.a", "down"),)
SORTED = ("sort", (("r.b", "up"),), READ)
TWO = ("merge", (("r.b", "s.b", "up"),), SORTED, ("index", "s", "bd"))
ALL_RUNS = ("none", "none", "distinct", "groups")


def bare(rules=None):
    return catalog_of(rules, {"r": [], "s": [], "t": []})


class Serving(unittest.TestCase):
    def check(self, query, plan, wanted, catalog=None):
        check_same(self, serves(catalog or catalog_of(), query, plan), wanted)
        check_same(self, serves(plan=plan, query=query, catalog=catalog or catalog_of()), wanted)

    def test_streams(self):
        for query, plan, wanted in (
                (query_of(("r",)), READ, True), (query_of(("r",), order=ORDER), READ, False), (query_of(("r",), order=ORDER), ("sort", ORDER, READ), True),
                (query_of(("r", "s")), TWO, True), (query_of(("r", "s")), READ, False), (query_of(("r", "s"), order=ORDER), TWO, False),
                (query_of(("r", "s")), ("merge", (("r.b", "s.b", "up"),), READ, ("index", "s", "bd")), False),
                (query_of(("r", "s"), order=ORDER), ("sort", ORDER, TWO), True),
                (query_of(("r", "s"), order=ORDER), ("sort", ORDER, ("merge", (("r.b", "s.b", "up"),), READ, ("heap", "s"))), False),
                (query_of(("r",), first=2), READ, False), (query_of(("r",), first=2), ("first", READ), True),
                (query_of(("r",), first=2, order=ORDER), ("first", READ), False)):
            self.check(query, plan, wanted)

    def test_runs(self):
        query = query_of(("r",), wanted=("r.b",), runs="distinct")
        by = ("index", "r", "by")
        self.check(query, ("distinct", by), True)
        self.check(query, ("distinct", READ), False)
        self.check(query, by, False)
        wanted = query.changed(order=(("r.b", "down"),))
        self.check(wanted, ("distinct", by), False)
        self.check(wanted, ("sort", (("r.b", "down"),), ("distinct", by)), True)
        self.check(wanted, ("sort", (("r.b", "down"),), ("distinct", READ)), False)
        self.check(wanted.changed(order=(("r.b", "up"),)), ("distinct", by), True)
        self.check(wanted, ("distinct", ("sort", (("r.b", "down"),), READ)), True)

    def test_rows_that_stand_together_need_not_be_sorted(self):
        two = [("orders", (("a", "up"),), (("b", "up"),)), ("key", ("a",))]
        catalog = Catalog([("r", Rules((("a", "number"), ("b", "number")), two), [])])
        query = query_of(("r",), catalog, equalities=[], filters=[("r.a", ">", 0), ("r.a", "<", 3)], wanted=("r.b",), runs="groups")
        self.check(query, ("groups", READ), True, catalog)
        self.check(query, ("groups", READ), False, Catalog([("r", Rules((("a", "number"), ("b", "number"))), [])]))

    def test_any_value(self):
        for value in odd_values():
            for plan in (value, ("first", value), ("sort", value, READ), ("sort", ORDER, value), ["heap", "r"]):
                self.check(query_of(("r",)), plan, False)
        self.check(query_of(("r",)), ("sort", (), READ), False)
        self.check(query_of(("r",)), ("heap", "s"), False)
        other = Catalog([("r", Rules((("a", "number"),)), [])])
        check_error(self, Unlike, {}, serves, other, query_of(), None)

    def test_by_answers_and_over_databases(self):
        dice, seen = random.Random(81), {True: 0, False: 0}
        for _ in range(200):
            catalog, query = random_setting(dice, ALL_RUNS)
            plan = random_whole_plan(dice, catalog, query)
            wanted = serves_by_answers(catalog, query, plan)
            seen[wanted] += 1
            check_same(self, serves(catalog, query, plan), wanted)
            if wanted:
                for _ in range(3):
                    database = random_database(dice, catalog)
                    check_true(self, is_answer(database, query, plan_output(database, query, plan)))
            elif query.first is None:
                self.check_not_serving(catalog, query, plan)
        self.assertGreater(min(seen.values()), 50, seen)

    def check_not_serving(self, catalog, query, plan):
        """There is a database over which the plan raises an error or puts out something else."""
        asked = [(part, ("sorted", order)) for part, order in wished(query, plan)]
        if query.runs != "none":
            asked += [(below(plan), ("together", query.wanted))]
            asked += [] if has_sort_above(plan) else [(below(plan), ("sorted", query.order.entries))]
        for part, question in asked:
            stream = Stream(catalog, query, part)
            answer = ask(stream, question)
            if not answer:
                database, _ = database_of(stream, answer.world)
                try:
                    self.assertFalse(is_answer(database, query, plan_output(database, query, plan)))
                except (OutOfOrder, Apart):
                    pass
                return
        self.fail("it serves")


class Filling(unittest.TestCase):
    def check(self, catalog, query, shape):
        found = filling(catalog, query, shape)
        self.assertEqual(found, filling(shape=shape, query=query, catalog=catalog))
        if found is not None:
            self.assertIsNone(check_plan(catalog, query, found))
            self.assertTrue(is_filled(shape, found), (shape, found))
            self.assertEqual(work_of(found), work_of(shape))
            check_true(self, serves(catalog, query, found))
            self.assertTrue(counts_by_answers(catalog, query, found))
        return found

    def test_examples(self):
        catalog, query = bare(), query_of(("r", "s"), wanted=("r.a", "r.b"), order=ORDER)
        merge = ("merge", (("r.b", "s.b", "up"),), ("sort", (), READ), ("sort", (), ("heap", "s")))
        self.assertIsNone(self.check(catalog, query, merge))
        self.assertIsNotNone(self.check(catalog, query, ("sort", (), merge)))
        self.assertIsNotNone(self.check(catalog, query.changed(order=()), merge))
        self.assertIsNotNone(self.check(catalog, query.changed(order=(("r.b", "up"), ("r.a", "down"))), merge))
        self.assertIsNone(self.check(catalog, query.changed(order=(("r.b", "down"),)), merge))
        self.assertIsNone(self.check(catalog, query.changed(order=()), ("merge", (("r.b", "s.b", "up"),), READ, ("sort", (), ("heap", "s")))))
        self.assertIsNotNone(self.check(catalog, query_of(("r",)), ("sort", (), READ)))
        self.assertEqual(self.check(catalog, query_of(("r",)), READ), READ)
        self.assertIsNone(self.check(catalog, query_of(("r",), order=ORDER), READ))
        self.assertIsNotNone(self.check(catalog, query_of(("r",), order=ORDER, first=3), ("first", ("sort", (), READ))))

    def test_one_sort_for_two_wishes(self):
        """The inner sort must serve the outer merge, too: t.d rises with s.d, that follows r.b."""
        query = query_of(equalities=[("r.b", "s.b"), ("r.a", "t.d")], wanted=("r.a",))
        rule = ("orders", (("a", "up"),), (("b", "up"),))
        inside = ("merge", (("r.b", "s.b", "up"),), ("sort", (), READ), ("sort", (), ("heap", "s")))
        shape = ("merge", (("r.a", "t.d", "up"),), inside, ("sort", (), ("heap", "t")))
        self.assertIsNone(self.check(bare(), query, shape))
        self.assertIsNotNone(self.check(bare({"r": [rule]}), query, shape))

    def test_runs(self):
        query = query_of(("r",), wanted=("r.c", "r.b"), runs="distinct")
        self.assertIsNone(self.check(bare(), query, ("distinct", READ)))
        self.assertIsNotNone(self.check(bare(), query, ("distinct", ("sort", (), READ))))
        down = query.changed(order=(("r.b", "down"),))
        found = self.check(bare(), down, ("distinct", ("sort", (), READ)))
        self.assertEqual(found[1][1][0], ("r.b", "down"))
        above = ("sort", (("r.b", "down"),), ("distinct", ("sort", (), READ)))
        self.assertIsNotNone(self.check(bare(), down, above))
        self.assertIsNone(self.check(bare(), down, ("sort", (("r.b", "down"),), ("distinct", READ))))
        self.assertIsNotNone(self.check(bare({"r": [("key", ())]}), down, ("distinct", READ)))

    def test_rows_that_stand_together_without_a_sort(self):
        two = [("orders", (("a", "up"),), (("b", "up"),)), ("key", ("a",))]
        catalog = Catalog([("r", Rules((("a", "number"), ("b", "number")), two), [])])
        query = query_of(("r",), catalog, equalities=[], filters=[("r.a", ">", 0), ("r.a", "<", 3)], wanted=("r.b",), runs="groups")
        check_same(self, self.check(catalog, query, ("groups", READ)), ("groups", READ))
        check_same(self, least_plan(catalog, query), ("groups", READ))
        self.assertIsNone(self.check(catalog, query.changed(order=(("r.b", "up"),)), ("groups", READ)))

    def test_a_sort_that_can_have_no_entry(self):
        """r.b and r.c go round, and the heap of r follows them pair by pair: no order of r alone does so."""
        going = ((-1, 0), (0, 1), (1, -1))
        others = [(one, other) for one in (-1, 0, 1) for other in (-1, 0, 1) if (one, other) not in going]
        follows = [("never", (("b", one), ("c", other), ("coming", 1))) for one, other in going]
        needs = [("never", (("b", one), ("c", other), ("e", -1))) for one, other in others]
        columns = (("b", "number"), ("c", "number"))
        catalog = Catalog([("r", Rules(columns, follows), []), ("t", Rules((*columns, ("e", "number")), needs), [("by", [("b", "up")])])])
        query = query_of(("r", "t"), catalog, equalities=[("r.b", "t.b"), ("r.c", "t.c")], wanted=("t.e",), order=(("t.e", "up"),))
        shape = ("seek", READ, "t", "by", 1)
        check_same(self, self.check(catalog, query, shape), shape)
        self.assertIsNone(self.check(catalog, query, ("seek", ("sort", (), READ), "t", "by", 1)))
        self.assertIsNotNone(self.check(catalog, query.changed(order=()), ("seek", ("sort", (), READ), "t", "by", 1)))

    def test_shapes_without_a_sort_and_with_one_at_each_place(self):
        dice, seen = random.Random(82), {True: 0, False: 0}
        for _ in range(40):
            catalog, query = random_setting(dice, ALL_RUNS, most_tables=2)
            shapes = [shape for shape in shapes_of(catalog, query) if work_of(shape)[0] <= 1]
            for shape in dice.sample(shapes, min(len(shapes), 12)):
                seen[self.check(catalog, query, shape) is not None] += 1
        self.assertGreater(min(seen.values()), 60, seen)

    def test_none_only_if_no_orders_serve(self):
        """All orders at all sorts are tried."""
        dice, seen = random.Random(83), {True: 0, False: 0}
        while min(seen.values()) < 25:
            catalog, query = random_setting(dice, ALL_RUNS, most_tables=2, most_columns=(2, 1), most_rules=2)
            shapes = [shape for shape in shapes_of(catalog, query) if 1 <= work_of(below(shape))[0] <= 2]
            for shape in dice.sample(shapes, min(len(shapes), 3)):
                found = self.check(catalog, query, shape)
                seen[found is not None] += 1
                if found is None:
                    above = [top for stream in fillings_by_definition(query, below(shape)) for top in tops(query, stream)
                             if has_sort_above(top) == has_sort_above(shape)]
                    for plan in dice.sample(above, min(len(above), 150)):
                        self.assertFalse(serves(catalog, query, plan) and counts_by_answers(catalog, query, plan), plan)

    def test_values_that_are_no_shapes(self):
        query = query_of(("r", "s"))
        for value in odd_values() + [READ, TWO, ("first", TWO), ("distinct", TWO), ("sort", (), ("sort", (), TWO)), ("heap", "z")]:
            check_error(self, InvalidPlan, {"path": ()}, filling, catalog_of(), query, value)
            check_error(self, InvalidPlan, {"path": ()}, filling, catalog_of(), query.changed(runs="groups"), ("groups", value))
        other = Catalog([("r", Rules((("a", "number"),)), [])])
        check_error(self, Unlike, {}, filling, other, query, None)


class LeastPlans(unittest.TestCase):
    def check(self, catalog, query, work=None):
        plan = least_plan(catalog, query)
        self.assertIsNone(check_plan(catalog, query, plan))
        check_true(self, is_whole(query, plan))
        self.assertTrue(serves_by_answers(catalog, query, plan))
        self.assertTrue(counts_by_answers(catalog, query, plan))
        self.assertEqual(plan, least_plan(query=query, catalog=catalog))
        if work is not None:
            self.assertEqual(work_of(plan), work)
        return plan

    def test_one_table(self):
        for catalog, changed, work in (
                (bare(), {}, (0, 0)), (bare(), {"order": ORDER}, (1, 0)), (catalog_of(), {"wanted": ("r.c",), "order": (("r.c", "up"),)}, (0, 0)),
                (catalog_of(), {"wanted": ("r.c",), "order": (("r.c", "down"),)}, (1, 0)), (bare({"r": [("key", ())]}), {"order": ORDER}, (0, 0)),
                (bare(), {"order": ORDER, "filters": [("r.a", "=", 1)]}, (0, 0)), (catalog_of(), {"wanted": ("r.b", "r.c"), "runs": "distinct"}, (1, 0)),
                (catalog_of(), {"wanted": ("r.b",), "runs": "groups"}, (0, 0)), (catalog_of(), {"wanted": ("r.b",), "runs": "groups", "first": 4}, (0, 0)),
                (catalog_of(), {"wanted": ("r.b",), "runs": "groups", "order": (("r.b", "down"),)}, (1, 0)),
                (bare({"r": [("orders", (("coming", "up"),), (("a", "down"),))]}), {"order": ORDER}, (0, 0)), (bare(), {"first": 3}, (0, 0)),
                (bare(), {"first": 3, "order": ORDER}, (1, 0))):
            self.check(catalog, query_of(("r",), **changed), work)

    def test_two_and_three_tables(self):
        rising = {table: [("orders", (("coming", "up"),), ((column, "up"),))] for table, column in (("r", "b"), ("s", "b"), ("t", "d"))}
        for catalog, query, work in (
                (bare(), query_of(("r", "s")), (2, 0)), (catalog_of(), query_of(("r", "s")), (0, 0)), (bare(), query_of(), (4, 0)),
                (bare(rising), query_of(("r", "s")), (0, 0)), (bare(rising), query_of(), (1, 0)), (bare({"r": [("key", ("b",))]}), query_of(("r", "s")), (2, 0)),
                (catalog_of(), query_of(("r", "s"), order=ORDER), (1, 0)), (catalog_of(), query_of(), (0, 1)),
                (catalog_of(indexes={"r": []}), query_of(("r", "s"), wanted=("r.b",), order=(("r.b", "up"),)), (1, 0)),
                (catalog_of(indexes={"r": []}), query_of(("r", "s")), (0, 1)), (bare({"r": [("key", ())], "s": [("key", ())]}), query_of(("r", "s")), (0, 0))):
            self.check(catalog, query, work)

    def test_first_needs_the_same_work(self):
        dice = random.Random(84)
        for _ in range(40):
            catalog, query = random_setting(dice, ALL_RUNS)
            works = [work_of(least_plan(catalog, query.changed(first=first))) for first in (None, 1, 1000)]
            self.assertEqual(len(set(works)), 1)

    def test_no_shape_with_less_work_can_be_filled(self):
        dice, many = random.Random(85), 0
        for _ in range(60):
            catalog, query = random_setting(dice, ALL_RUNS, most_rules=2)
            work = work_of(self.check(catalog, query))
            less = [shape for shape in shapes_of(catalog, query) if work_of(shape) < work]
            for shape in dice.sample(less, min(len(less), 25)):
                many += 1
                self.assertIsNone(filling(catalog, query, shape), shape)
        self.assertGreater(many, 250)

    def test_over_databases(self):
        dice, rows = random.Random(86), 0
        for _ in range(150):
            catalog, query = random_setting(dice, ALL_RUNS)
            plan = least_plan(catalog, query)
            for _ in range(4):
                database = random_database(dice, catalog)
                found = plan_output(database, query, plan)
                rows += len(found)
                check_true(self, is_answer(database, query, found))
        self.assertGreater(rows, 500)

    def test_plans_are_of_the_space(self):
        dice = random.Random(87)
        for _ in range(40):
            catalog, query = random_setting(dice, ALL_RUNS)
            check_true(self, is_shape(catalog, query, self.emptied(least_plan(catalog, query), query)))

    def emptied(self, plan, query):
        """The plan with all orders below distinct and groups taken out."""
        if not isinstance(plan, tuple):
            return plan
        if plan[:1] == ("sort",) and plan[2][0] not in ("distinct", "groups"):
            return ("sort", (), self.emptied(plan[2], query))
        return tuple(self.emptied(part, query) for part in plan)

    def test_unlike(self):
        other = Catalog([("r", Rules((("a", "number"),)), [])])
        check_error(self, Unlike, {}, least_plan, other, query_of())


class LeastRules(unittest.TestCase):
    rising = ("orders", (("coming", "up"),), (("b", "up"),))

    def test_examples(self):
        query = query_of(("r", "s"))
        offers = [("r", ("key", ("a",))), ("r", self.rising), ("s", ("determines", ("b",), "d")), ("s", self.rising)]
        check_same(self, least_rules(bare(), query, offers), (1, 3))
        check_same(self, least_rules(bare(), query, tuple(offers[::-1])), (0, 2))
        check_same(self, least_rules(bare(), query, offers[:3]), None)
        check_same(self, least_rules(bare(), query, []), None)
        check_same(self, least_rules(catalog_of(), query, offers), ())
        check_same(self, least_rules(catalog_of(), query, []), ())
        check_same(self, least_rules(bare(), query, offers + [("r", ("key", ())), ("s", ("key", ()))]), (1, 3))
        check_same(self, least_rules(bare(), query, [("s", ("key", ())), ("r", ("key", ()))]), (0, 1))
        check_same(self, least_rules(offered=offers, query=query, catalog=bare()), (1, 3))

    def test_by_definition(self):
        dice, seen = random.Random(88), {}
        while len(seen) < 4 or min(seen.values()) < 3:
            catalog, query = random_setting(dice, ALL_RUNS, most_tables=2, most_rules=1)
            offers = [(table, rule) for table in catalog.tables for rule in random_rules(dice, catalog.rules_of(table).columns, 3)
                      if rule not in catalog.rules_of(table).rules]
            dice.shuffle(offers)
            offers = offers[:dice.randint(0, 6)]
            wanted = self.least(catalog, query, offers)
            kind = "none" if wanted is None else min(len(wanted), 2)
            seen[kind] = seen.get(kind, 0) + 1
            before = copy.deepcopy(offers)
            check_same(self, least_rules(catalog, query, offers), wanted)
            check_same(self, least_rules(catalog, query, offers), wanted)
            self.assertEqual(offers, before)

    def least(self, catalog, query, offers):
        for many in range(len(offers) + 1):
            for positions in combinations(range(len(offers)), many):
                added = catalog
                for table, rule in [offers[position] for position in positions]:
                    added = added.with_rules(table, added.rules_of(table).with_rule(rule))
                if work_of(least_plan(added, query))[0] == 0:
                    return positions
        return None

    def wrong(self, offered, position, catalog=None):
        check_error(self, InvalidOffer, {"position": position}, least_rules, catalog or bare({"r": [self.rising]}), query_of(("r", "s")), offered)

    def test_wrong_offers(self):
        good = [("r", ("key", ("a",))), ("s", self.rising)]
        for offer in (("t", ("key", ("d",))), ("z", ("key", ())), ("r", self.rising), good[0], ("r", ("key", ("d",))), ("s", ("key", ("a",))),
                      ("r", ("key", ("b", "a"))), ("r", None), (None, ("key", ())), list(good[1]), ("r",), ("r", ("key", ()), ()), ("r", ["key", ()]),
                      ("r", ("never", (("a", True),)))):
            self.wrong(good + [offer], 2)
            self.wrong(good + [offer, None], 2)
        self.wrong([None, None], 0)

    def test_values_of_other_kinds(self):
        for value in odd_values():
            if not isinstance(value, (list, tuple)):
                self.wrong(value, -1)
            self.wrong([("r", ("key", ("a",))), value], 1)
            self.wrong([("r", value)], 0)
            self.wrong([(value, ("key", ()))], 0)
        other = Catalog([("r", Rules((("a", "number"),)), [])])
        check_error(self, Unlike, {}, least_rules, other, query_of(), None)

    def test_six_offers_and_seven(self):
        rules = [("never", ((name, sign), ("coming", 1))) for name in "ab" for sign in (-1, 0, 1)]
        found = least_rules(catalog_of(), query_of(("r", "s")), [("r", rule) for rule in rules])
        check_same(self, found, ())
        self.wrong([("r", rule) for rule in rules] + [("s", self.rising)], -1)
        self.wrong([None] * 7, -1)

    def test_at_most_eight_rules(self):
        rules = [("never", ((name, sign), ("coming", 1))) for name in "ab" for sign in (-1, 0, 1)]
        full = bare({"r": rules})
        two = [("r", ("key", ("a",))), ("r", ("key", ("b",)))]
        self.assertIn(least_rules(full, query_of(("r", "s")), two), (None, (), (0,), (1,), (0, 1)))
        self.wrong(two + [("r", ("key", ("c",)))], 2, full)
        self.wrong([("s", self.rising)] + two + [("r", ("key", ("c",))), ("r", None)], 3, full)


class Unchanged(unittest.TestCase):
    def test_equal_calls_and_arguments(self):
        dice = random.Random(89)
        for _ in range(30):
            catalog, query = random_setting(dice, ALL_RUNS)
            plan = random_whole_plan(dice, catalog, query)
            kept = copy.deepcopy(plan)
            self.assertEqual(serves(catalog, query, plan), serves(catalog, query, plan))
            self.assertEqual(least_plan(catalog, query), least_plan(catalog, query))
            self.assertEqual(plan, kept)
        check_false(self, serves(catalog_of(), query_of(), READ))


if __name__ == "__main__":
    unittest.main()
