"""[16] and [26]: plans of a query, where they are wrong, their tables, when they are whole, and their work."""

import copy
import random
import unittest

from pairsigns.errors import InvalidPlan, Unlike
from pairsigns.plans import check_plan, is_stream, is_whole, plan_tables, work_of
from pairsigns.rules import Rules
from pairsigns.tables import Catalog
from tests.plan_samples import (catalog_of, groups_of, most_bound, parts_of_plan, query_of, random_setting, random_stream,
                                random_whole_plan, references_to, table_of, tables_in)
from tests.rule_samples import spoilt
from tests.samples import check_error, check_false, check_same, check_true, odd_values

READ = ("heap", "r")
SORTED = ("sort", (("r.b", "up"),), READ)
TWO = ("merge", (("r.b", "s.b", "up"),), SORTED, ("index", "s", "bd"))
THREE = ("merge", (("s.d", "t.d", "up"),), ("sort", (("s.d", "up"),), TWO), ("sort", (("t.d", "up"),), ("heap", "t")))
SEEKS = ("seek", ("seek", READ, "s", "bd", 1), "t", "de", 1)
SIZES = {"heap": 2, "index": 3, "sort": 3, "merge": 4, "seek": 5, "distinct": 2, "groups": 2, "first": 2}
INSIDE = {"sort": (2,), "merge": (2, 3), "seek": (1,), "distinct": (1,), "groups": (1,), "first": (1,)}
WRONG = (None, (), "r", "s.b", 0, 3, True, [], ("heap", "s"), ("heap", "t"), ("index", "s", "bd"), "down", (("r.c", "up"),), ("first", READ),
         ("distinct", READ))


def level(plan):
    """0 for streams, 1 for runs, 2 for sorted runs, 3 for first."""
    if plan[0] in ("distinct", "groups"):
        return 1
    if plan[0] == "first":
        return 3
    return 2 if plan[0] == "sort" and level(plan[2]) else 0


def fault(catalog, query, value, path=()):
    """The path of the first wrong part, or None, as [16] says it."""
    if not isinstance(value, tuple) or not value or not isinstance(value[0], str) or SIZES.get(value[0]) != len(value):
        return path
    for position in INSIDE.get(value[0], ()):
        found = fault(catalog, query, value[position], path + (position,))
        if found is not None:
            return found
    return None if is_right(catalog, query, value) else path


def is_right(catalog, query, plan):
    def is_table(table):
        return isinstance(table, str) and table in query.tables

    def is_index(table, name):
        return isinstance(name, str) and name in [index for index, _ in catalog.indexes_of(table)]

    word = plan[0]
    if word in ("heap", "index"):
        return is_table(plan[1]) and (word == "heap" or is_index(plan[1], plan[2]))
    inside = plan[2] if word in ("sort", "merge") else plan[1]
    tables = tables_in(inside)
    known = [reference for table in tables for reference in references_to(query, table)]
    if word == "sort":
        order = plan[1]
        if not isinstance(order, tuple) or not all(is_entry(entry, known) for entry in order) or not 1 <= len(order) <= 8:
            return False
        if level(inside):
            return level(inside) == 1 and order == query.order.entries
        return len({column for column, _ in order}) == len(order)
    if word == "first":
        return query.first is not None and level(inside) < 3 and len(tables) == len(query.tables) and (
            (level(inside) > 0) == (query.runs != "none"))
    if level(inside):
        return False
    if word == "merge":
        other = tables_in(plan[3])
        return not level(plan[3]) and len(other) == 1 and other[0] not in tables and are_pairs(query, plan[1], known, other[0])
    if word == "seek":
        _, _, table, name, bound = plan
        if not is_table(table) or table in tables or not is_index(table, name) or type(bound) is not int:
            return False
        return any(are_linked(group, tables, table) for group in groups_of(query)) and (
            1 <= bound <= most_bound(catalog, query, tables, table, name))
    return word == query.runs and len(tables) == len(query.tables)


def are_linked(group, tables, table):
    return any(table_of(part) in tables for part in group) and any(table_of(part) == table for part in group)


def is_entry(value, known):
    return isinstance(value, tuple) and len(value) == 2 and all(isinstance(part, str) for part in value) and (
        value[0] in known and value[1] in ("up", "down"))


def are_pairs(query, pairs, known, table):
    if not isinstance(pairs, tuple) or not 1 <= len(pairs) <= 3:
        return False
    found = []
    for pair in pairs:
        if not isinstance(pair, tuple) or len(pair) != 3 or not all(isinstance(part, str) for part in pair):
            return False
        group = [group for group in groups_of(query) if pair[0] in group and pair[1] in group]
        if not group or pair[0] not in known or pair[1] not in references_to(query, table) or pair[2] not in ("up", "down"):
            return False
        found += group
    return all(one is not other and one != other for at, one in enumerate(found) for other in found[:at])


class PlanTests(unittest.TestCase):
    catalog = catalog_of()

    def right(self, query, *plans):
        for plan in plans:
            self.assertIsNone(check_plan(self.catalog, query, plan), plan)

    def wrong(self, query, *pairs):
        for plan, path in pairs:
            check_error(self, InvalidPlan, {"path": path}, check_plan, self.catalog, query, plan)


class Reads(PlanTests):
    def test_heaps_and_indexes(self):
        self.right(query_of(), READ, ("heap", "t"), ("index", "r", "by"), ("index", "r", "ca"), ("index", "s", "bd"))
        self.right(query_of(("r",)), READ, ("index", "r", "by"))

    def test_wrong_reads(self):
        self.wrong(query_of(("r", "s")), *[(plan, ()) for plan in (
            ("heap", "t"), ("heap", "z"), ("heap", None), ("heap", ["r"]), ("heap",), ("heap", "r", "by"), ["heap", "r"], ("Heap", "r"),
            ("index", "r", "bd"), ("index", "s", "by"), ("index", "t", "de"), ("index", "r", None), ("index", "r"), ("index", "r", ("by",)))])

    def test_values_of_other_kinds(self):
        for value in odd_values():
            self.wrong(query_of(), (value, ()), (("sort", (("r.a", "up"),), value), (2,)), (("first", value), (1,)),
                       (("merge", (("r.b", "s.b", "up"),), READ, value), (3,)), (("seek", value, "s", "bd", 1), (1,)))


class Sorts(PlanTests):
    def test_entries(self):
        eight = tuple((reference, "down") for table in "rst" for reference in references_to(query_of(), table))
        self.right(query_of(), SORTED, ("sort", (("r.c", "down"), ("r.a", "up")), READ), ("sort", (("r.a", "up"),), SORTED),
                   ("sort", (("s.d", "up"), ("r.a", "up")), TWO), ("sort", eight, THREE))
        self.assertEqual(len(eight), 7)

    def test_eight_entries_and_nine(self):
        columns = tuple((name, "number") for name in "abcd")
        catalog = Catalog([(table, Rules(columns), []) for table in "rst"])
        query = query_of(("r", "s", "t"), catalog, equalities=[("r.a", "s.a"), ("s.a", "t.a")])
        many = tuple((f"{table}.{name}", "up") for table in "rst" for name in "abcd")
        plan = ("merge", (("r.a", "s.a", "up"),), ("heap", "r"), ("heap", "s"))
        plan = ("merge", (("r.a", "t.a", "up"),), plan, ("heap", "t"))
        self.assertIsNone(check_plan(catalog, query, ("sort", many[:8], plan)))
        self.assertIsNone(check_plan(catalog, query, ("sort", many[:1], plan)))
        for wrong in (many[:9], ()):
            check_error(self, InvalidPlan, {"path": ()}, check_plan, catalog, query, ("sort", wrong, plan))

    def test_wrong_orders(self):
        for order in ((), [("r.b", "up")], (["r.b", "up"],), (("r.b",),), (("r.b", "left"),), (("r.b", "up"), ("r.b", "down")), (("s.b", "up"),),
                      (("b", "up"),), (("r.coming", "up"),), (("r.z", "up"),), None, "r.b", (("r.b", "up"), None), ((None, "up"),)):
            self.wrong(query_of(), (("sort", order, READ), ()), (("sort", (("r.a", "up"),), ("sort", order, READ)), (2,)))
        self.wrong(query_of(), (("sort", (("t.d", "up"),), TWO), ()), (("sort", (("r.b", "up"),), READ, ()), ()), (("sort", READ), ()))


class Merges(PlanTests):
    query = query_of(equalities=[("r.b", "s.b"), ("s.d", "t.d"), ("r.a", "s.d")])

    def test_right_ones(self):
        self.right(query_of(), TWO, THREE, ("merge", (("s.b", "r.b", "down"),), ("heap", "s"), ("sort", (("r.a", "up"),), SORTED)))
        self.right(self.query, ("merge", (("r.b", "s.b", "up"), ("r.a", "s.d", "down")), READ, ("heap", "s")),
                   ("merge", (("r.a", "t.d", "up"),), READ, ("heap", "t")),
                   ("merge", (("r.a", "t.d", "up"),), ("merge", (("r.b", "s.b", "up"),), READ, ("heap", "s")), ("heap", "t")))

    def test_three_pairs_and_four(self):
        columns = tuple((name, "number") for name in "abcd")
        catalog = Catalog([(table, Rules(columns), []) for table in "rs"])
        query = query_of(("r", "s"), catalog, equalities=[(f"r.{name}", f"s.{name}") for name in "abcd"])
        pairs = tuple((f"r.{name}", f"s.{name}", "up") for name in "abcd")
        for many in (1, 2, 3):
            self.assertIsNone(check_plan(catalog, query, ("merge", pairs[:many], READ, ("heap", "s"))))
        for wrong in (pairs, ()):
            check_error(self, InvalidPlan, {"path": ()}, check_plan, catalog, query, ("merge", wrong, READ, ("heap", "s")))

    def test_wrong_pairs(self):
        good = ("r.b", "s.b", "up")
        for pairs in ((), [good], good, (list(good),), (good[:2],), (("s.b", "r.b", "up"),), (("r.b", "s.b", "left"),), (("r.b", "s.d", "up"),),
                      (("r.a", "s.b", "up"),), (good, good), (good, ("r.b", "s.b", "down")), (good, None), None, (("r.b", None, "up"),),
                      ((None, "s.b", "up"),), (("r.b", "s.b", None),), (("r.coming", "s.coming", "up"),)):
            self.wrong(query_of(), (("merge", pairs, READ, ("heap", "s")), ()))
            self.wrong(query_of(), (("sort", (("r.b", "up"),), ("merge", pairs, READ, ("heap", "s"))), (2,)))

    def test_one_class_may_not_stand_twice(self):
        query = query_of(("r", "s"), equalities=[("r.b", "s.b"), ("r.a", "s.b")])
        self.right(query, ("merge", (("r.a", "s.b", "up"),), READ, ("heap", "s")))
        self.wrong(query, (("merge", (("r.a", "s.b", "up"), ("r.b", "s.b", "up")), READ, ("heap", "s")), ()))

    def test_wrong_sides(self):
        pairs = (("s.d", "t.d", "up"),)
        self.wrong(query_of(), (("merge", (("r.b", "r.b", "up"),), READ, READ), ()), (("merge", (("s.b", "r.b", "up"),), TWO, READ), ()),
                   (("merge", (("t.d", "s.d", "up"),), ("heap", "t"), TWO), ()), (("merge", pairs, TWO, ("heap", "z")), (3,)),
                   (("merge", pairs, ("heap", "z"), ("heap", "y")), (2,)), (("merge", pairs, TWO, ("heap", "s")), ()))


class Seeks(PlanTests):
    def test_bounds(self):
        fixed = query_of(filters=[("s.d", "=", 4)])
        self.right(query_of(), ("seek", READ, "s", "bd", 1), SEEKS, ("seek", ("heap", "s"), "r", "by", 1))
        self.right(fixed, ("seek", READ, "s", "bd", 1), ("seek", READ, "s", "bd", 2))
        self.wrong(query_of(), (("seek", READ, "s", "bd", 2), ()), (("seek", ("heap", "s"), "r", "by", 2), ()))
        for bound in (0, -1, 3, True, None, "1", (1,)):
            self.wrong(fixed, (("seek", READ, "s", "bd", bound), ()))

    def test_a_class_must_join_the_table(self):
        fixed = query_of(filters=[("t.d", "=", 4)])
        self.right(fixed, ("seek", ("heap", "s"), "t", "de", 1))
        self.wrong(fixed, (("seek", READ, "t", "de", 1), ()))
        self.wrong(query_of(), (("seek", ("heap", "s"), "r", "ca", 1), ()))

    def test_wrong_parts(self):
        for table, name in (("r", "by"), ("z", "bd"), (None, "bd"), ("s", "by"), ("s", None), ("s", "z"), (["s"], "bd")):
            self.wrong(query_of(), (("seek", READ, table, name, 1), ()))
        self.wrong(query_of(), (("seek", TWO, "s", "bd", 1), ()), (("seek", READ, "s", "bd"), ()), (("seek", ("heap", "z"), "s", "bd", 1), (1,)))
        self.wrong(query_of(("r", "s")), (("seek", ("heap", "s"), "t", "de", 1), ()))


class Tops(PlanTests):
    order = (("r.a", "down"),)

    def test_runs(self):
        for runs in ("distinct", "groups"):
            query = query_of(runs=runs, order=self.order)
            other = "groups" if runs == "distinct" else "distinct"
            self.right(query, (runs, THREE), ("sort", self.order, (runs, THREE)), TWO)
            self.wrong(query, ((other, THREE), ()), ((runs, TWO), ()), (("sort", (("r.a", "up"),), (runs, THREE)), ()), ((runs, (runs, THREE)), ()),
                       (("sort", (), (runs, THREE)), ()), (("sort", self.order, ("sort", self.order, (runs, THREE))), ()),
                       (("first", (runs, THREE)), ()), ((runs,), ()), ((runs, THREE, ()), ()))
        self.wrong(query_of(), (("distinct", THREE), ()), (("groups", THREE), ()))
        self.wrong(query_of(runs="distinct"), (("sort", (("r.a", "up"),), ("distinct", THREE)), ()), (("sort", (), ("distinct", THREE)), ()))

    def test_first(self):
        self.right(query_of(first=3), ("first", THREE), THREE, ("first", ("sort", (("r.b", "up"),), THREE)))
        self.wrong(query_of(first=3), (("first", TWO), ()), (("first", ("first", THREE)), ()), (("sort", (("r.b", "up"),), ("first", THREE)), ()),
                   (("first", THREE, 3), ()))
        self.wrong(query_of(), (("first", THREE), ()))
        query = query_of(first=3, runs="distinct", order=self.order)
        self.right(query, ("first", ("distinct", THREE)), ("first", ("sort", self.order, ("distinct", THREE))))
        self.wrong(query, (("first", THREE), ()), (("distinct", ("first", ("distinct", THREE))), ()),
                   (("sort", self.order, ("first", ("distinct", THREE))), ()))

    def test_nothing_stands_above_them_in_merges_and_seeks(self):
        query = query_of(("r",), runs="distinct", first=2)
        self.right(query, ("first", ("distinct", READ)))
        joined = query_of(("r", "s"), runs="groups", first=2)
        self.wrong(joined, (("merge", (("r.b", "s.b", "up"),), ("groups", TWO), ("heap", "s")), ()),
                   (("merge", (("r.b", "s.b", "up"),), READ, ("groups", TWO)), ()), (("seek", ("groups", TWO), "s", "bd", 1), ()),
                   (("merge", (("r.b", "s.b", "up"),), ("first", ("groups", TWO)), ("heap", "s")), ()),
                   (("merge", (("r.b", "s.b", "up"),), READ, ("groups", ("heap", "s"))), (3,)))


class FirstWrongPart(PlanTests):
    def test_which_of_two_is_told(self):
        bad = ("heap", "z")
        pairs = (("s.d", "t.d", "up"),)
        self.wrong(query_of(), (("merge", (), bad, bad), (2,)), (("merge", None, TWO, bad), (3,)), (("sort", (), bad), (2,)),
                   (("sort", (), ("merge", pairs, ("sort", (), READ), bad)), (2, 2)), (("merge", (), TWO, ("sort", (), ("heap", "t"))), (3,)),
                   (("seek", ("merge", (), READ, bad), "z", "z", 0), (1, 3)), (("first", ("distinct", ("sort", None, bad))), (1, 1, 2)),
                   (("groups", ("sort", [], READ)), (1,)), (("merge", (), READ), ()), (("merge", (), ("heap",), READ), (2,)))

    def test_nothing_is_looked_at_inside_of_what_has_no_form(self):
        self.wrong(query_of(), (("sort", (), ("heap", "z"), 1), ()), (("union", ("heap", "z"), READ), ()), (["sort", (), ("heap", "z")], ()),
                   (("sort", (("r.b", "up"),), ["heap", "z"]), (2,)))

    def test_all_plans_with_one_wrong_part(self):
        settings = [(query_of(), THREE), (query_of(), SEEKS), (query_of(("r", "s"), filters=[("s.d", "=", 1)]), ("seek", SORTED, "s", "bd", 2)),
                    (query_of(("r", "s"), runs="distinct", order=(("r.a", "up"),), first=2),
                     ("first", ("sort", (("r.a", "up"),), ("distinct", TWO))))]
        for query, plan in settings:
            self.right(query, plan)
            for value in spoilt(plan, WRONG):
                path = fault(self.catalog, query, value)
                if path is None:
                    self.right(query, value)
                else:
                    self.wrong(query, (value, path))

    def test_plans_made_by_chance(self):
        dice, wrong = random.Random(5), 0
        for _ in range(250):
            catalog, query = random_setting(dice)
            plan = random_whole_plan(dice, catalog, query)
            self.assertIsNone(fault(catalog, query, plan))
            self.assertIsNone(check_plan(catalog, query, plan))
            others = [part for _, part in parts_of_plan(random_whole_plan(dice, catalog, query))] + [2, "s", "a.b", (), "r.a", "down"]
            for value in dice.sample(list(spoilt(plan, others)), 25):
                path = fault(catalog, query, value)
                if path is None:
                    self.assertIsNone(check_plan(catalog, query, value))
                else:
                    wrong += 1
                    check_error(self, InvalidPlan, {"path": path}, check_plan, catalog, query, value)
        self.assertGreater(wrong, 3000)


class AskingPlans(PlanTests):
    def test_tables(self):
        for plan, tables in ((READ, ("r",)), (("index", "s", "bd"), ("s",)), (TWO, ("r", "s")), (THREE, ("r", "s", "t")), (SEEKS, ("r", "s", "t")),
                             (("merge", (("s.b", "r.b", "up"),), ("heap", "s"), READ), ("s", "r")), (("first", ("groups", TWO)), ("r", "s")),
                             (("sort", (), ("heap", "t")), ("t",))):
            check_same(self, plan_tables(plan), tables)
            check_same(self, plan_tables(plan=plan), tables)

    def test_streams(self):
        for plan in (READ, TWO, THREE, SEEKS, SORTED):
            check_true(self, is_stream(plan))
        for plan in (("distinct", READ), ("groups", READ), ("first", READ), ("sort", (("r.a", "up"),), ("distinct", READ))):
            check_false(self, is_stream(plan))

    def test_whole_plans(self):
        plain, runs, first, both = [query_of(("r",), order=(("r.a", "up"),), **parts)
                                    for parts in ({}, {"runs": "groups"}, {"first": 1}, {"runs": "groups", "first": 1})]
        above = ("sort", (("r.a", "up"),), ("groups", READ))
        for query, plan, wanted in (
                (plain, READ, True), (query_of(), READ, False), (query_of(), TWO, False), (query_of(), THREE, True), (query_of(), SEEKS, True),
                (runs, READ, False), (runs, SORTED, False), (runs, ("groups", READ), True), (runs, above, True), (first, READ, False),
                (first, ("first", READ), True), (both, READ, False), (both, ("groups", READ), False), (both, above, False),
                (both, ("first", ("groups", READ)), True), (both, ("first", above), True)):
            check_same(self, is_whole(query, plan), wanted)
            check_same(self, is_whole(plan=plan, query=query), wanted)

    def test_work(self):
        for plan, work in ((READ, (0, 0)), (SORTED, (1, 0)), (TWO, (1, 0)), (THREE, (3, 0)), (SEEKS, (0, 2)), (("seek", TWO, "t", "de", 1), (1, 1)),
                           (("first", ("sort", (("r.a", "up"),), ("distinct", ("sort", (), THREE)))), (5, 0)), (("sort", (), READ), (1, 0))):
            check_same(self, work_of(plan), work)

    def test_unlike(self):
        query = query_of()
        other = Catalog([("r", Rules((("a", "number"),)), [])])
        check_error(self, Unlike, {}, check_plan, other, query, THREE)
        check_error(self, Unlike, {}, check_plan, other, query, None)

    def test_arguments_stay(self):
        query, plan = query_of(), ["sort", [("r.b", "up")], ["heap", "r"]]
        before = copy.deepcopy(plan)
        for _ in range(2):
            self.wrong(query, (plan, ()), (tuple(plan), (2,)))
        self.assertEqual(plan, before)

    def test_streams_by_chance(self):
        dice = random.Random(8)
        for _ in range(100):
            catalog, query = random_setting(dice)
            plan = random_stream(dice, catalog, query)
            check_true(self, is_stream(plan))
            check_same(self, plan_tables(plan), tables_in(plan))
            parts = [part[0] for _, part in parts_of_plan(plan)]
            check_same(self, work_of(plan), (parts.count("sort"), parts.count("seek")))


if __name__ == "__main__":
    unittest.main()
