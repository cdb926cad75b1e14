"""[14]: fitting combinations, the output of a query, and its answers."""

import random
import unittest
from itertools import permutations, product

from pairsigns.errors import Unlike
from pairsigns.queries import combinations, is_answer, plain_output
from pairsigns.rules import Rules
from pairsigns.tables import Catalog, Database
from tests.query_samples import COLUMNS, catalog_of, fitting, output, query_of, random_database, random_query, simple
from tests.samples import BIG, check_error, check_false, check_same, check_true, odd_values


def filled():
    database = Database(catalog_of())
    for row in ((1, 5, "x"), (2, 6, ""), (1, 5, "y"), (3, 6, "x")):
        database.insert("r", row)
    for row in ((5, "x"), (6, "x"), (5, "y")):
        database.insert("s", row)
    for row in ((1, 5), (7, 6)):
        database.insert("t", row)
    return database


def sorting_key(query, row):
    """The row as numbers that rise in the sequence of the query's order."""
    spots = [(query.wanted.index(column), direction) for column, direction in query.order.entries]
    ranks = {"": 0, "x": 1, "y": 2}
    numbers = [ranks[value] if isinstance(value, str) else value for value in row]
    return [numbers[at] if direction == "up" else -numbers[at] for at, direction in spots]


def is_answer_by_definition(query, wanted, rows):
    """Whether rows are the beginning of some sorted list of all wanted rows: whether they can be completed to one."""
    left = list(wanted)
    for row in rows:
        if row not in left:
            return False
        left.remove(row)
    many = len(wanted) if query.first is None else min(query.first, len(wanted))
    whole = list(rows) + sorted(left, key=lambda row: sorting_key(query, row))
    keys = [sorting_key(query, row) for row in whole]
    return len(rows) == many and keys == sorted(keys)


def first_of(database, query):
    return next(combinations(database, query))


class FittingCombinations(unittest.TestCase):
    def test_against_all_combinations(self):
        dice, seen = random.Random(13), 0
        for _ in range(350):
            database, query = random_database(dice, 8), random_query(dice)
            wanted = fitting(database, query)
            seen += len(wanted)
            check_same(self, list(combinations(database, query)), wanted)
            self.assertEqual(wanted, sorted(wanted))
        self.assertGreater(seen, 800)

    def test_by_hand(self):
        database = filled()
        check_same(self, list(combinations(database, simple())), [(0,), (1,), (2,), (3,)])
        check_same(self, list(combinations(database, simple(("r", "s"), equalities=[("r.b", "s.b")]))),
                   [(0, 0), (0, 2), (1, 1), (2, 0), (2, 2), (3, 1)])
        check_same(self, list(combinations(database, simple(("s", "r"), equalities=[("r.b", "s.b"), ("s.d", "r.c")]))),
                   [(0, 0), (1, 3), (2, 2)])
        check_same(self, list(combinations(query=simple(("t", "s", "r"), equalities=[("r.b", "s.b"), ("t.e", "s.b"), ("r.a", "t.a")]),
                                           database=database)), [(0, 0, 0), (0, 0, 2), (0, 2, 0), (0, 2, 2)])

    def test_filters(self):
        for filters, wanted in (([("r.a", "=", 1)], [0, 2]), ([("r.a", "<", 2)], [0, 2]), ([("r.a", "<=", 2)], [0, 1, 2]),
                                ([("r.a", ">", 2)], [3]), ([("r.a", ">=", 2)], [1, 3]), ([("r.c", "=", "x")], [0, 3]),
                                ([("r.c", "=", "")], [1]), ([("r.a", ">", 1), ("r.a", "<", 3)], [1]), ([("r.a", ">", BIG)], []),
                                ([("r.a", "=", 1), ("r.a", "=", 2)], []), ([("r.a", ">", -BIG)], [0, 1, 2, 3])):
            check_same(self, list(combinations(filled(), simple(filters=filters))), [(place,) for place in wanted])

    def test_equalities_within_a_table(self):
        database = filled()
        for row in ((5, 5, ""), (6, 5, ""), (6, 6, "x")):
            database.insert("r", row)
        check_same(self, list(combinations(database, simple(equalities=[("r.a", "r.b")]))), [(4,), (6,)])
        query = simple(("r", "s"), equalities=[("r.a", "r.b"), ("s.b", "r.a")])
        check_same(self, list(combinations(database, query)), [(4, 0), (4, 2), (6, 1)])

    def test_tables_that_are_connected_by_a_later_one(self):
        query = simple(("r", "t", "s"), equalities=[("r.b", "s.b"), ("s.b", "t.e")])
        check_same(self, list(combinations(filled(), query)), [(0, 0, 0), (0, 0, 2), (1, 1, 1), (2, 0, 0), (2, 0, 2), (3, 1, 1)])

    def test_no_rows_and_one_row(self):
        database = Database(catalog_of())
        query = simple(("r", "s"), equalities=[("r.b", "s.b")])
        check_same(self, list(combinations(database, query)), [])
        database.insert("r", (1, 5, ""))
        check_same(self, list(combinations(database, query)), [])
        check_same(self, list(combinations(database, simple())), [(0,)])
        database.insert("s", (5, ""))
        check_same(self, list(combinations(database, query)), [(0, 0)])

    def test_places_of_rows_that_are_gone(self):
        database = filled()
        database.remove("r", 0)
        check_same(self, list(combinations(database, simple())), [(1,), (2,), (3,)])

    def test_great_whole_numbers(self):
        database = Database(catalog_of())
        for number in (BIG, BIG - 1):
            database.insert("r", (0, number, ""))
            database.insert("s", (number, ""))
        check_same(self, list(combinations(database, simple(("r", "s"), equalities=[("r.b", "s.b")]))), [(0, 0), (1, 1)])

    def test_many_rows(self):
        database = Database(catalog_of())
        for number in range(200):
            database.insert("r", (number, 199 - number, ""))
            database.insert("s", (number, ""))
            database.insert("t", (number, number))
        query = simple(("r", "t", "s"), equalities=[("r.b", "s.b"), ("s.b", "t.e")])
        check_same(self, list(combinations(database, query)), [(place, 199 - place, 199 - place) for place in range(200)])

    def test_each_is_yielded_one_by_one(self):
        found = combinations(filled(), simple())
        self.assertIs(iter(found), found)
        self.assertEqual([next(found), next(found)], [(0,), (1,)])


class Output(unittest.TestCase):
    def test_against_all_combinations(self):
        dice = random.Random(14)
        for _ in range(200):
            database, query = random_database(dice, 8), random_query(dice)
            check_same(self, plain_output(database, query), output(database, query))

    def test_by_hand(self):
        database = filled()
        for runs, wanted in (("none", [(1, 5), (1, 5), (2, 6), (3, 6)]), ("distinct", [(1, 5), (2, 6), (3, 6)]),
                             ("groups", [(1, 5, 2), (2, 6, 1), (3, 6, 1)])):
            check_same(self, plain_output(database, simple(wanted=("r.a", "r.b"), runs=runs)), wanted)
        check_same(self, plain_output(database, simple(wanted=("r.c", "r.a"), runs="none")), [("", 2), ("x", 1), ("x", 3), ("y", 1)])
        check_same(self, plain_output(query=simple(wanted=("r.b",), runs="groups"), database=database), [(5, 2), (6, 2)])
        query = simple(("r", "s"), ("s.d",), equalities=[("r.b", "s.b")], runs="groups")
        check_same(self, plain_output(database, query), [("x", 4), ("y", 2)])

    def test_order_and_first_do_not_count(self):
        query = simple(wanted=("r.a",), order=[("r.a", "down")], first=1)
        check_same(self, plain_output(filled(), query), [(1,), (1,), (2,), (3,)])

    def test_no_rows(self):
        for runs in ("none", "distinct", "groups"):
            check_same(self, plain_output(Database(catalog_of()), simple(runs=runs)), [])

    def test_returned_lists_are_new(self):
        database, query = filled(), simple()
        plain_output(database, query).clear()
        self.assertEqual(len(plain_output(database, query)), 4)
        self.assertEqual(database, filled())


class Answers(unittest.TestCase):
    def test_against_the_definition(self):
        dice, seen = random.Random(15), {True: 0, False: 0}
        for _ in range(150):
            database, query = random_database(dice, 4), random_query(dice)
            wanted = output(database, query)
            for rows in self.some_lists(dice, query, wanted):
                expected = is_answer_by_definition(query, wanted, rows)
                seen[expected] += 1
                check_same(self, is_answer(database, query, rows), expected)
                check_same(self, is_answer(database, query, tuple(rows)), expected)
        self.assertGreater(min(seen.values()), 300)

    def some_lists(self, dice, query, wanted):
        """Lists of output rows, of which some are answers."""
        rows = sorted(dice.sample(wanted, len(wanted)), key=lambda row: sorting_key(query, row))
        for _ in range(4):
            yield rows[:query.first]
            yield rows
            yield rows[:-1]
            yield dice.sample(rows, len(rows))[:query.first]
            yield [dice.choice(rows) for _ in rows]
            yield rows + rows[:1]
            rows = sorted(dice.sample(rows, len(rows)), key=lambda row: sorting_key(query, row))

    def test_all_lists_of_a_few_rows(self):
        database = Database(catalog_of())
        for row in ((1, 1, "x"), (1, 2, "y"), (2, 1, "x"), (1, 1, "x")):
            database.insert("r", row)
        for order, first in product(([], [("r.a", "up")], [("r.a", "down")], [("r.b", "down"), ("r.a", "up")]), (None, 1, 2, 3, 4, 5)):
            query = simple(wanted=("r.a", "r.b"), order=order, first=first)
            wanted = output(database, query)
            answers = {rows[:first] for rows in permutations(wanted)
                       if [sorting_key(query, row) for row in rows] == sorted(sorting_key(query, row) for row in rows)}
            for many in range(6):
                for rows in product(((1, 1), (1, 2), (2, 1), (2, 2)), repeat=many):
                    check_same(self, is_answer(database, query, list(rows)), rows in answers)

    def test_by_hand(self):
        database = filled()
        query = simple(wanted=("r.b", "r.a"), order=[("r.b", "down")], first=3)
        check_true(self, is_answer(database, query, [(6, 2), (6, 3), (5, 1)]))
        check_true(self, is_answer(rows=[(6, 3), (6, 2), (5, 1)], query=query, database=database))
        check_false(self, is_answer(database, query, [(6, 3), (5, 1), (6, 2)]))
        check_false(self, is_answer(database, query, [(6, 3), (5, 1), (5, 1)]))
        check_false(self, is_answer(database, query, [(6, 2), (6, 3)]))
        check_false(self, is_answer(database, query, [(6, 2), (6, 3), (5, 1), (5, 1)]))
        check_false(self, is_answer(database, query.changed(order=[("r.b", "down"), ("r.a", "down")]), [(6, 2), (6, 3), (5, 1)]))
        groups = simple(wanted=("r.b",), runs="groups", order=[("r.b", "down")])
        check_true(self, is_answer(database, groups, [(6, 2), (5, 2)]))
        check_false(self, is_answer(database, groups, [(5, 2), (6, 2)]))
        check_false(self, is_answer(database, groups, [(6,), (5,)]))

    def test_no_rows(self):
        database = Database(catalog_of())
        for first in (None, 1, 1000):
            for runs in ("none", "distinct", "groups"):
                check_true(self, is_answer(database, simple(runs=runs, first=first), []))
                check_true(self, is_answer(database, simple(runs=runs, first=first), ()))
                check_false(self, is_answer(database, simple(runs=runs, first=first), [(1,)]))

    def test_any_value(self):
        for database in (filled(), Database(catalog_of())):
            for value in odd_values() + [plain_output(filled(), simple()), "", iter([]), {}, {(1,): 1}]:
                wanted = len(database) == 0 and isinstance(value, (list, tuple)) and len(value) == 0
                if not isinstance(value, list) or len(value) != 4:
                    check_same(self, is_answer(database, simple(), value), wanted)

    def test_any_value_as_a_row(self):
        database = Database(catalog_of())
        database.insert("r", (1, 0, "abc"))
        for value in odd_values():
            for wanted in ((1,), (0,), ("abc",)):
                query = simple(wanted={1: ("r.a",), 0: ("r.b",), "abc": ("r.c",)}[wanted[0]])
                same = type(value) is tuple and repr(value) == repr(wanted)
                check_same(self, is_answer(database, query, [value]), same)
                same = repr(value) == repr(wanted[0])
                check_same(self, is_answer(database, query, [(value,)]), same)
                check_false(self, is_answer(database, query, [[wanted[0]]]))

    def test_true_is_not_one(self):
        database = Database(catalog_of())
        database.insert("r", (1, 0, ""))
        query = simple(wanted=("r.a", "r.b"), runs="groups")
        check_true(self, is_answer(database, query, [(1, 0, 1)]))
        for rows in ([(True, 0, 1)], [(1, False, 1)], [(1, 0, True)]):
            check_false(self, is_answer(database, query, rows))

    def test_what_was_passed_stays_as_it_was(self):
        rows = [(3,), (1,), (2,), (1,)]
        check_true(self, is_answer(filled(), simple(), rows))
        self.assertEqual(rows, [(3,), (1,), (2,), (1,)])


class QueriesThatDoNotFit(unittest.TestCase):
    def test_unlike(self):
        for columns in ({"s": COLUMNS["s"], "t": COLUMNS["t"]}, COLUMNS | {"s": COLUMNS["s"][::-1]}, COLUMNS | {"t": COLUMNS["t"][:1]},
                        COLUMNS | {"r": (("a", "text"), ("b", "number"), ("c", "text"))}):
            database = Database(catalog_of(columns))
            check_error(self, Unlike, {}, first_of, database, query_of())
            check_error(self, Unlike, {}, plain_output, database, query_of())
            for rows in ([], None, [(1,)]):
                check_error(self, Unlike, {}, is_answer, database, query_of(), rows)

    def test_errors_are_not_raised_before_the_first_element_is_asked_for(self):
        found = combinations(Database(catalog_of({"alone": COLUMNS["alone"]})), query_of())
        with self.assertRaises(Unlike):
            next(found)

    def test_rules_and_indexes_do_not_count(self):
        database = Database(Catalog([("r", Rules(COLUMNS["r"], [("key", ())]), [("by", [("a", "up")])])]))
        database.insert("r", (4, 4, ""))
        check_same(self, plain_output(database, simple()), [(4,)])


if __name__ == "__main__":
    unittest.main()
