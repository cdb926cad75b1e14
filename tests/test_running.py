"""[18] and [14]: running plans: what is put out and when, which error comes and when, and the output of whole plans."""

import copy
import inspect
import random
import unittest
from itertools import product

from pairsigns.errors import Apart, InvalidPlan, OutOfOrder, Unlike
from pairsigns.queries import is_answer
from pairsigns.rules import Rules
from pairsigns.running import plan_output, run_plan
from pairsigns.tables import Catalog, Database
from tests.plan_samples import (catalog_of, joined, query_of, random_database, random_setting, random_whole_plan, rows_of_table, sign_by,
                                sorted_rows, stream_rows, tables_in, value_in)
from tests.samples import check_error, check_same, odd_values

READ = ("heap", "r")
PAIRS = (("r.b", "s.b", "up"),)


def trace(database, query, plan, path=()):
    """The rows that a plan puts out, and the error that comes then, as (class, path), or None."""
    word = plan[0]
    if word in ("heap", "index"):
        return rows_of_table(database, query, *plan[1:]), None
    position = {"sort": 2, "merge": 2}.get(word, 1)
    inside = plan[position]
    if word == "merge":
        return merge_trace(database, query, plan, path)
    rows, error = trace(database, query, inside, path + (position,))
    if word == "sort":
        return ([], error) if error else (sorted_trace(database, query, plan[1], inside, rows), None)
    if word == "seek":
        return joined(database, query, tables_in(inside), rows, plan[2], rows_of_table(database, query, plan[2], plan[3])), error
    if word == "first":
        return (rows[:query.first], None) if len(rows) >= query.first else (rows, error)
    return runs_trace(database, query, plan, path, rows, error)


def sorted_trace(database, query, order, inside, rows):
    if inside[0] not in ("distinct", "groups"):
        return sorted_rows(database, tables_in(inside), order, rows)
    for column, direction in reversed(order):
        at = query.wanted.index(column)
        rows = sorted(rows, key=lambda row: row[at], reverse=direction == "down")
    return rows


def in_order(database, tables, entries, rows):
    """The rows up to the first one that is ahead of the one before it, and whether there is one."""
    for at in range(1, len(rows)):
        if sign_by(database, tables, entries, rows[at], rows[at - 1]) == -1:
            return rows[:at], True
    return rows, False


def merge_trace(database, query, plan, path):
    _, pairs, inside, other = plan
    others, error = trace(database, query, other, path + (3,))
    kept, broken = in_order(database, tables_in(other), [(two, direction) for _, two, direction in pairs], others)
    if broken or error:
        return [], (OutOfOrder, path) if broken else error
    rows, error = trace(database, query, inside, path + (2,))
    kept, broken = in_order(database, tables_in(inside), [(one, direction) for one, _, direction in pairs], rows)
    found = joined(database, query, tables_in(inside), kept, tables_in(other)[0], others)
    return found, (OutOfOrder, path) if broken else error


def runs_trace(database, query, plan, path, rows, error):
    told = [tuple(value_in(database, tables_in(plan), row, reference) for reference in query.wanted) for row in rows]
    runs = []
    for at, values in enumerate(told):
        if at and values == told[at - 1]:
            runs[-1] += (values,)
        elif values in told[:at]:
            error = (Apart, path)
            break
        else:
            runs.append((values,))
    if plan[0] == "distinct":
        return [run[0] for run in runs], error
    # The last run is not put out if an error comes instead, or because of the row behind it.
    ended = runs[:-1] if error else runs
    return [run[0] + (len(run),) for run in ended], error


def outcome(rows):
    """What a generator puts out, and the error that it raises then."""
    found = []
    try:
        for row in rows:
            found.append(row)
    except (OutOfOrder, Apart) as error:
        return found, (type(error), error.path)
    return found, None


class Example(unittest.TestCase):
    """r.a is 1, 1, 2, 1 and r.b is 5, 5, 4, 9; s.b is 5, 9, 4, 4."""

    def setUp(self):
        self.database = Database(catalog_of())
        for row in ((1, 5, "x"), (1, 5, "y"), (2, 4, "x"), (1, 9, "x")):
            self.database.insert("r", row)
        for row in ((5, 1), (9, 2), (4, 3), (4, 4)):
            self.database.insert("s", row)

    def check(self, plan, rows, error=None, **changed):
        tables = tuple(sorted(tables_in(plan)))
        query = query_of(tables, **changed)
        found = outcome(run_plan(self.database, query, plan))
        self.assertEqual(found, (rows, error))
        self.assertEqual(trace(self.database, query, plan), (rows, error))


class Merging(Example):
    def test_rows_before_the_error(self):
        others = ("index", "s", "bd")
        self.check(("merge", PAIRS, READ, others), [(0, 0), (1, 0)], (OutOfOrder, ()))
        self.check(("merge", PAIRS, READ, ("heap", "s")), [], (OutOfOrder, ()))
        self.check(("merge", PAIRS, ("index", "r", "by"), others), [(2, 2), (2, 3), (0, 0), (1, 0), (3, 1)])
        self.check(("merge", (("s.b", "r.b", "up"),), ("heap", "s"), ("index", "r", "by")), [(0, 0), (0, 1), (1, 3)], (OutOfOrder, ()))

    def test_down(self):
        down = (("r.b", "s.b", "down"),)
        sides = ("sort", (("r.b", "down"),), READ), ("sort", (("s.b", "down"),), ("heap", "s"))
        self.check(("merge", down, *sides), [(3, 1), (0, 0), (1, 0), (2, 2), (2, 3)])
        self.check(("merge", PAIRS, *sides), [], (OutOfOrder, ()))
        self.check(("merge", down, READ, sides[1]), [(0, 0), (1, 0), (2, 2), (2, 3)], (OutOfOrder, ()))

    def test_rows_that_match_nothing_are_drawn_too(self):
        self.check(("merge", PAIRS, READ, ("index", "s", "bd")), [], (OutOfOrder, ()), filters=[("s.d", "=", 7)])
        self.check(("merge", PAIRS, READ, ("heap", "s")), [], (OutOfOrder, ()), filters=[("r.a", "<", 0)])

    def test_several_pairs(self):
        joins = [("r.b", "s.b"), ("r.a", "s.d")]
        pairs = (("r.b", "s.b", "up"), ("r.a", "s.d", "down"))
        sides = ("sort", (("r.b", "up"), ("r.a", "down")), READ), ("sort", (("s.b", "up"), ("s.d", "down")), ("heap", "s"))
        self.check(("merge", pairs, *sides), [(0, 0), (1, 0)], equalities=joins)
        self.check(("merge", pairs[:1], sides[0], ("sort", (("s.b", "up"),), ("heap", "s"))), [(0, 0), (1, 0)], equalities=joins)
        self.check(("merge", pairs, sides[0], ("index", "s", "bd")), [], (OutOfOrder, ()), equalities=joins)

    def test_paths_and_which_error_comes(self):
        bad = ("merge", PAIRS, READ, ("index", "s", "bd"))
        worse = ("merge", (("s.d", "t.d", "up"),), bad, ("heap", "t"))
        self.database.insert("t", (1, "x"))
        self.database.insert("t", (0, "x"))
        self.check(worse, [], (OutOfOrder, ()))
        self.database.remove("t", 1)
        self.check(worse, [(0, 0, 0), (1, 0, 0)], (OutOfOrder, (2,)))
        self.check(("sort", (("r.a", "up"),), worse), [], (OutOfOrder, (2, 2)))
        self.check(("seek", bad, "t", "de", 1), [(0, 0, 0), (1, 0, 0)], (OutOfOrder, (1,)))
        self.check(("seek", ("sort", (("r.a", "up"),), bad), "t", "de", 1), [], (OutOfOrder, (1, 2)))

    def test_other_is_drawn_first(self):
        self.database.insert("t", (2, "x"))
        self.database.insert("t", (1, "x"))
        inside = ("merge", PAIRS, READ, ("heap", "s"))
        self.check(("merge", (("s.d", "t.d", "up"),), inside, ("heap", "t")), [], (OutOfOrder, ()))
        self.check(("merge", (("s.d", "t.d", "up"),), inside, ("sort", (("t.d", "up"),), ("heap", "t"))), [], (OutOfOrder, (2,)))


class SmallTables(unittest.TestCase):
    """Tables without rows, with one row, and with rows that are alike; sorts with eight entries, merges with three pairs."""
    columns = {"r": (("a", "number"), ("b", "number"), ("c", "text")), "s": (("a", "number"), ("b", "number"), ("c", "text")),
               "t": (("a", "number"), ("d", "text"))}

    def setUp(self):
        self.catalog = Catalog([(table, Rules(columns), [("by", [("a", "up")])]) for table, columns in self.columns.items()])
        self.joins = [("r.a", "s.a"), ("r.b", "s.b"), ("r.c", "s.c")]
        self.pairs = tuple((one, other, direction) for (one, other), direction in zip(self.joins, ("up", "down", "up")))

    def database(self, rows):
        database = Database(self.catalog)
        for table, found in rows.items():
            for row in found:
                database.insert(table, row)
        return database

    def merge(self, plan=READ):
        sides = [("sort", tuple((pair[at], pair[2]) for pair in self.pairs), side) for at, side in ((0, plan), (1, ("heap", "s")))]
        return ("merge", self.pairs, *sides)

    def check(self, rows, wanted, tables=("r", "s"), plan=None, joins=None):
        query = query_of(tables, self.catalog, equalities=self.joins if joins is None else joins, wanted=(f"{tables[0]}.a",))
        database, plan = self.database(rows), plan or self.merge()
        self.assertEqual(outcome(run_plan(database, query, plan)), (wanted, None))
        self.assertEqual(stream_rows(database, query, plan), wanted)

    def test_three_pairs(self):
        rows = [(1, 2, "x"), (1, 3, "x"), (0, 3, "y"), (1, 3, "w")]
        self.check({"r": rows, "s": rows}, [(2, 2), (3, 3), (1, 1), (0, 0)])
        self.check({"r": rows, "s": rows[1:]}, [(2, 1), (3, 2), (1, 0)])

    def test_no_rows_and_one_row(self):
        row = (1, 2, "x")
        seek = ("seek", READ, "s", "by", 1)
        for plan in (None, seek, ("sort", (("s.c", "down"),), seek)):
            self.check({}, [], plan=plan)
            self.check({"r": [row]}, [], plan=plan)
            self.check({"s": [row]}, [], plan=plan)
            self.check({"r": [row], "s": [row]}, [(0, 0)], plan=plan)
        for plan in (READ, ("index", "r", "by"), ("sort", (("r.c", "up"),), READ)):
            self.check({}, [], ("r",), plan, [])
            self.check({"r": [row]}, [(0,)], ("r",), plan, [])

    def test_rows_that_are_alike(self):
        row = (1, 2, "x")
        self.check({"r": [row, row], "s": [row, row]}, [(0, 0), (0, 1), (1, 0), (1, 1)])
        self.check({"r": [row, row], "s": [row, row]}, [(0, 0), (0, 1), (1, 0), (1, 1)], plan=("seek", READ, "s", "by", 1))
        self.check({"r": [row, row, row]}, [(0,), (1,), (2,)], ("r",), ("sort", (("r.a", "down"), ("r.c", "up")), READ), [])

    def test_eight_entries(self):
        order = tuple((f"{table}.{name}", direction) for (table, name), direction in zip(
            [(table, name) for table in "trs" for name, _ in self.columns[table]], ("up", "down") * 4))
        self.assertEqual(len(order), 8)
        plan = ("sort", order, ("seek", ("seek", READ, "s", "by", 1), "t", "by", 1))
        rows = [(1, 1, "x"), (0, 1, "x"), (1, 0, "y"), (1, 0, "x")]
        database = self.database({"r": rows, "s": rows, "t": [(1, "v"), (0, "u"), (1, "u")]})
        query = query_of(("r", "s", "t"), self.catalog, equalities=[("r.a", "s.a"), ("s.a", "t.a")])
        found = list(run_plan(database, query, plan))
        self.assertEqual(found, stream_rows(database, query, plan))
        self.assertEqual(len(found), 3 * 3 * 2 + 1)
        for one, other in zip(found, found[1:]):
            self.assertEqual(sign_by(database, ("r", "s", "t"), order, one, other), -1)


class Runs(Example):
    def check_runs(self, runs, plan, rows, error=None, **changed):
        self.check((runs, plan), rows, error, runs=runs, **({"wanted": ("r.a",)} | changed))

    def test_distinct(self):
        self.check_runs("distinct", READ, [(1,), (2,)], (Apart, ()))
        self.check_runs("distinct", ("sort", (("r.a", "down"),), READ), [(2,), (1,)])
        self.check_runs("distinct", READ, [(5,), (4,), (9,)], wanted=("r.b",))
        self.check_runs("distinct", READ, [("x", 1), ("y", 1), ("x", 2)], (Apart, ()), wanted=("r.c", "r.a"))

    def test_groups(self):
        self.check_runs("groups", READ, [(1, 2)], (Apart, ()))
        self.check_runs("groups", ("sort", (("r.a", "down"),), READ), [(2, 1), (1, 3)])
        self.check_runs("groups", READ, [(5, 2), (4, 1), (9, 1)], wanted=("r.b",))

    def test_no_rows_and_one_row(self):
        for runs, wanted in (("distinct", [(1,)]), ("groups", [(1, 1)])):
            self.check_runs(runs, READ, wanted, filters=[("r.b", "=", 9)])
            self.check_runs(runs, READ, [], filters=[("r.b", "=", 8)])

    def test_errors_below_come_instead_of_the_last_group(self):
        bad = ("merge", PAIRS, READ, ("index", "s", "bd"))
        self.check_runs("groups", bad, [], (OutOfOrder, (1,)))
        self.check_runs("distinct", bad, [(1,)], (OutOfOrder, (1,)))
        self.check_runs("groups", bad, [(1, "x", 1)], (OutOfOrder, (1,)), wanted=("r.a", "r.c"))

    def test_sort_above(self):
        for runs, first, rows in (("distinct", None, [(9,), (5,), (4,)]), ("groups", None, [(9, 1), (5, 2), (4, 1)]), ("groups", 2, [(9, 1), (5, 2)])):
            plan = ("sort", (("r.b", "down"),), (runs, READ))
            self.check(plan if first is None else ("first", plan), rows, wanted=("r.b",), runs=runs, order=(("r.b", "down"),), first=first)
        order = (("r.a", "up"),)
        self.check(("sort", order, ("groups", READ)), [], (Apart, (2,)), wanted=("r.a",), runs="groups", order=order)
        self.check(("first", ("sort", order, ("groups", READ))), [], (Apart, (1, 2)), wanted=("r.a",), runs="groups", order=order, first=1)

    def test_sort_above_is_stable(self):
        order = (("r.a", "up"),)
        self.check(("sort", order, ("groups", READ)), [(1, "x", 1), (1, "y", 1), (2, "x", 1)], wanted=("r.a", "r.c"), runs="groups", order=order,
                   filters=[("r.b", "<", 9)])
        self.check(("sort", order, ("groups", ("sort", (("r.c", "down"), ("r.a", "down")), READ))), [(1, "y", 1), (1, "x", 2), (2, "x", 1)],
                   wanted=("r.a", "r.c"), runs="groups", order=order)


class First(Example):
    def test_nothing_is_drawn_behind_the_last_row(self):
        bad = ("merge", PAIRS, READ, ("index", "s", "bd"))
        self.check(("first", bad), [(0, 0)], first=1)
        self.check(("first", bad), [(0, 0), (1, 0)], first=2)
        self.check(("first", bad), [(0, 0), (1, 0)], (OutOfOrder, (1,)), first=3)
        self.check(("first", ("sort", (("r.a", "up"),), bad)), [], (OutOfOrder, (1, 2)), first=1)
        self.check(("first", READ), [(0,), (1,), (2,), (3,)], first=1000)

    def test_above_runs(self):
        for runs, many, rows, error in (("distinct", 1, [(1,)], None), ("distinct", 2, [(1,), (2,)], None), ("groups", 1, [(1, 2)], None),
                                        ("distinct", 3, [(1,), (2,)], (Apart, (1,))), ("groups", 2, [(1, 2)], (Apart, (1,)))):
            self.check(("first", (runs, READ)), rows, error, wanted=("r.a",), runs=runs, first=many)
        for runs, rows in (("distinct", [(1,)]), ("groups", [])):
            bad = ("merge", PAIRS, READ, ("index", "s", "bd"))
            error = None if rows else (OutOfOrder, (1, 1))
            self.check(("first", (runs, bad)), rows, error, wanted=("r.a",), runs=runs, first=1)


class OneByOne(Example):
    def test_rows_come_before_later_ones_are_drawn(self):
        plan = ("merge", PAIRS, READ, ("index", "s", "bd"))
        rows = run_plan(self.database, query_of(("r", "s")), plan)
        self.assertTrue(inspect.isgeneratorfunction(run_plan))
        check_same(self, next(rows), (0, 0))
        check_same(self, next(rows), (1, 0))
        with self.assertRaises(OutOfOrder):
            next(rows)

    def test_two_runs_side_by_side(self):
        query = query_of(("r", "s"))
        plan = ("merge", PAIRS, ("index", "r", "by"), ("index", "s", "bd"))
        alone = list(run_plan(self.database, query, plan))
        one, other = run_plan(self.database, query, plan), run_plan(self.database, query, plan)
        found = [(next(one), next(other)) for _ in alone]
        self.assertEqual(found, [(row, row) for row in alone])
        late = run_plan(self.database, query, plan)
        next(late)
        self.assertEqual(list(run_plan(self.database, query, plan)), alone)
        self.assertEqual(list(late), alone[1:])

    def test_runs_change_nothing(self):
        query, before = query_of(("r", "s")), self.database.clone()
        plan = ("merge", PAIRS, ("index", "r", "by"), ("index", "s", "bd"))
        kept = copy.deepcopy(plan)
        self.assertEqual(list(run_plan(database=self.database, query=query, plan=plan)), list(run_plan(self.database, query, plan)))
        self.assertEqual(self.database, before)
        self.assertEqual(plan, kept)
        self.assertEqual(query, query_of(("r", "s")))

    def test_errors_come_with_the_first_row(self):
        rows = run_plan(self.database, query_of(("r",)), ("heap", "s"))
        check_error(self, InvalidPlan, {"path": ()}, next, rows)
        for value in odd_values():
            check_error(self, InvalidPlan, {"path": ()}, list, run_plan(self.database, query_of(("r",)), value))
            check_error(self, InvalidPlan, {"path": ()}, plan_output, self.database, query_of(("r",)), value)
        other = Database(Catalog([("r", Rules((("a", "number"),)), [])]))
        for value in (None, READ):
            rows = run_plan(other, query_of(("r",)), value)
            check_error(self, Unlike, {}, next, rows)
            check_error(self, Unlike, {}, plan_output, other, query_of(("r",)), value)

    def test_rules_and_indexes_are_those_of_the_database(self):
        database = Database(catalog_of(indexes={"r": []}))
        check_error(self, InvalidPlan, {"path": ()}, list, run_plan(database, query_of(("r",)), ("index", "r", "by")))


class Output(Example):
    def test_streams(self):
        query = query_of(("r", "s"), wanted=("s.d", "r.c", "r.a"))
        plan = ("merge", PAIRS, ("index", "r", "by"), ("index", "s", "bd"))
        check_same(self, plan_output(self.database, query, plan), [(3, "x", 2), (4, "x", 2), (1, "x", 1), (1, "y", 1), (2, "x", 1)])
        check_same(self, plan_output(self.database, query.changed(first=2), ("first", plan)), [(3, "x", 2), (4, "x", 2)])
        turned = ("merge", (("s.b", "r.b", "up"),), ("index", "s", "bd"), ("index", "r", "by"))
        check_same(self, plan_output(self.database, query, turned), [(3, "x", 2), (4, "x", 2), (1, "x", 1), (1, "y", 1), (2, "x", 1)])

    def test_runs(self):
        query = query_of(("r",), wanted=("r.b",), runs="groups")
        check_same(self, plan_output(self.database, query, ("groups", READ)), [(5, 2), (4, 1), (9, 1)])
        check_same(self, plan_output(self.database, query.changed(runs="distinct"), ("distinct", READ)), [(5,), (4,), (9,)])

    def test_plans_that_are_not_whole(self):
        for query, plan in ((query_of(("r", "s")), READ), (query_of(("r",), runs="distinct"), READ), (query_of(("r",), first=1), READ)):
            check_error(self, InvalidPlan, {"path": ()}, plan_output, self.database, query, plan)
        check_error(self, InvalidPlan, {"path": (2,)}, plan_output, self.database, query_of(("r", "s")), ("sort", (), ("heap", "z")))

    def test_errors_of_runs(self):
        query = query_of(("r", "s"))
        check_error(self, OutOfOrder, {"path": ()}, plan_output, self.database, query, ("merge", PAIRS, READ, ("heap", "s")))
        check_error(self, Apart, {"path": ()}, plan_output, self.database, query_of(("r",), runs="distinct"), ("distinct", READ))

    def test_a_returned_list_may_be_changed(self):
        query = query_of(("r",))
        plan_output(self.database, query, READ).clear()
        check_same(self, plan_output(self.database, query, READ), [(1,), (1,), (2,), (1,)])


class ByChance(unittest.TestCase):
    def test_traces(self):
        dice, seen = random.Random(21), {None: 0, OutOfOrder: 0, Apart: 0}
        for _ in range(1500):
            catalog, query = random_setting(dice, runs=("none", "distinct", "groups"), most_rules=1)
            plan, database = random_whole_plan(dice, catalog, query), random_database(dice, catalog)
            rows, error = trace(database, query, plan)
            seen[error and error[0]] += 1
            self.assertEqual(outcome(run_plan(database, query, plan)), (rows, error), plan)
        self.assertGreater(min(seen.values()), 20, seen)

    def test_outputs(self):
        dice, answers = random.Random(22), 0
        for _ in range(300):
            catalog, query = random_setting(dice, runs=("none", "distinct", "groups"))
            plan, database = random_whole_plan(dice, catalog, query), random_database(dice, catalog)
            rows, error = trace(database, query, plan)
            if error:
                check_error(self, error[0], {"path": error[1]}, plan_output, database, query, plan)
                continue
            if query.runs == "none":
                rows = [tuple(value_in(database, tables_in(plan), row, reference) for reference in query.wanted) for row in rows]
            found = plan_output(database, query, plan)
            check_same(self, found, rows)
            answers += is_answer(database, query, found)
        self.assertGreater(answers, 100)

    def test_all_rows_are_the_fitting_combinations(self):
        dice = random.Random(23)
        for _ in range(100):
            catalog, query = random_setting(dice, runs=("none",))
            plan, database = random_whole_plan(dice, catalog, query), random_database(dice, catalog)
            inside = plan[1] if plan[0] == "first" else plan
            tables = tables_in(inside)
            wanted = [row for row in product(*[[place for place, _ in database.rows(table)] for table in tables])
                      if self.fits(database, query, tables, row)]
            self.assertEqual(sorted(stream_rows(database, query, inside)), sorted(wanted))

    def fits(self, database, query, tables, row):
        def value(reference):
            return value_in(database, tables, row, reference)
        signs = {"=": lambda a, b: a == b, "<": lambda a, b: a < b, "<=": lambda a, b: a <= b, ">": lambda a, b: a > b, ">=": lambda a, b: a >= b}
        return all(value(one) == value(other) for one, other in query.equalities) and all(
            signs[told](value(reference), bound) for reference, told, bound in query.filters)


if __name__ == "__main__":
    unittest.main()
