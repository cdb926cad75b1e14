"""[15]: classes of references, their ranges and rooms, and what is fixed."""

import random
import unittest

from pairsigns.classes import class_of, classes_of, in_range, is_fixed, range_of, room_of
from pairsigns.errors import UnknownName
from pairsigns.queries import Query
from pairsigns.rules import Rules
from pairsigns.tables import Catalog
from tests.query_samples import KINDS, REFERENCES, filter_holds, query_of, random_query, simple
from tests.samples import BIG, check_error, check_false, check_same, check_true, odd_values

NUMBERS = list(range(-3, 8))
TEXTS = ["", "x", "y", "z"]


def own_references(query):
    return [reference for reference in REFERENCES if reference.split(".")[0] in query.tables]


def classes_by_definition(query):
    """The classes, by following equalities from each reference as long as they lead to a new one."""
    found = set()
    for reference in own_references(query):
        reached = {reference}
        while True:
            more = {end for pair in query.equalities if reached & set(pair) for end in pair}
            if more <= reached:
                break
            reached |= more
        found.add(tuple(sorted(reached)))
    return sorted(found)


def filters_on(query, group):
    return [(sign, bound) for reference, sign, bound in query.filters if reference in group]


class Classes(unittest.TestCase):
    def test_against_the_definition(self):
        dice = random.Random(16)
        for _ in range(200):
            query = random_query(dice)
            wanted = classes_by_definition(query)
            found = classes_of(query)
            check_same(self, found, wanted)
            self.assertEqual(sorted(reference for group in found for reference in group), sorted(own_references(query)))
            for reference in own_references(query):
                check_same(self, class_of(query, reference), next(group for group in wanted if reference in group))

    def test_by_hand(self):
        check_same(self, classes_of(simple()), [("r.a",), ("r.b",), ("r.c",)])
        check_same(self, classes_of(query_of()), [("r.a",), ("r.b", "s.b", "t.e"), ("r.c",), ("s.d",), ("t.a",)])
        query = simple(("t", "r"), ("r.a",), equalities=[("t.e", "r.b"), ("r.a", "t.a"), ("t.a", "r.b"), ("r.a", "r.b")])
        check_same(self, classes_of(query=query), [("r.a", "r.b", "t.a", "t.e"), ("r.c",)])
        check_same(self, class_of(query=query, reference="t.e"), ("r.a", "r.b", "t.a", "t.e"))
        check_same(self, class_of(query, "r.c"), ("r.c",))

    def test_an_equality_that_stands_twice(self):
        query = simple(("r", "s"), equalities=[("r.b", "s.b"), ("s.b", "r.b"), ("r.b", "s.b")])
        check_same(self, classes_of(query), [("r.a",), ("r.b", "s.b"), ("r.c",), ("s.d",)])

    def test_names_of_tables_that_begin_alike(self):
        columns = (("a", "number"),)
        catalog = Catalog([("ra", Rules(columns), []), ("r", Rules(columns), [])])
        query = Query(catalog, ("ra", "r"), equalities=[("ra.a", "r.a")], wanted=("r.a",))
        check_same(self, classes_of(query), [("r.a", "ra.a")])

    def test_returned_lists_are_new(self):
        query = query_of()
        classes_of(query).clear()
        self.assertEqual(len(classes_of(query)), 5)
        range_of(query, "s.d").clear()
        check_same(self, range_of(query, "s.d"), ["x"])


class Ranges(unittest.TestCase):
    def test_against_the_filters(self):
        dice = random.Random(17)
        for _ in range(200):
            query = random_query(dice)
            for group in classes_by_definition(query):
                for reference in group:
                    self.check_range(query, group, reference)

    def check_range(self, query, group, reference):
        filters = filters_on(query, group)
        values = NUMBERS if KINDS[reference] == "number" else TEXTS
        allowed = [value for value in values if all(filter_holds(value, sign, bound) for sign, bound in filters)]
        for value in values:
            check_same(self, in_range(query, reference, value), value in allowed)
        # The tried values reach beyond all bounds, so without a bound there are more than three of them.
        check_same(self, room_of(query, reference), min(3, len(allowed)))
        check_same(self, is_fixed(query, reference), len(allowed) == 1)
        if KINDS[reference] == "text":
            check_same(self, range_of(query, reference), sorted({bound for _, bound in filters}))
        elif allowed:
            low, high = range_of(query, reference)
            wanted = [None if value in (NUMBERS[0], NUMBERS[-1]) else value for value in (allowed[0], allowed[-1])]
            self.assertEqual([low, high], wanted)

    def test_of_numbers(self):
        for filters, wanted, room in (
                ([], (None, None), 3), ([("=", 4)], (4, 4), 1), ([("<", 4)], (None, 3), 3), ([("<=", 4)], (None, 4), 3),
                ([(">", 4)], (5, None), 3), ([(">=", 4)], (4, None), 3), ([(">", 4), ("<", 8)], (5, 7), 3),
                ([(">", 4), ("<", 7)], (5, 6), 2),
                ([(">", 4), ("<", 6)], (5, 5), 1), ([(">", 4), ("<", 5)], (5, 4), 0), ([("=", 1), ("=", 2)], (2, 1), 0),
                ([(">=", 4), ("<=", 4)], (4, 4), 1), ([("=", 4), (">", 4)], (5, 4), 0), ([("<", 9), ("<=", 7), ("<", 8)], (None, 7), 3),
                ([(">", 1), (">=", 3), (">", 2)], (3, None), 3), ([(">", 9), ("<", -9)], (10, -10), 0),
                ([(">=", 0), ("<=", 100)], (0, 100), 3),
                ([("=", BIG)], (BIG, BIG), 1), ([("<", -BIG)], (None, -BIG - 1), 3), ([(">", BIG)], (BIG + 1, None), 3),
                ([(">=", -BIG), ("<=", BIG)], (-BIG, BIG), 3), ([(">=", BIG - 1), ("<=", BIG)], (BIG - 1, BIG), 2), ([("=", 0)], (0, 0), 1),
                ([("=", 3)] * 8, (3, 3), 1), ([("<=", 0), (">=", 0)], (0, 0), 1), ([("<=", 0)], (None, 0), 3)):
            query = simple(filters=[("r.a", sign, bound) for sign, bound in filters])
            check_same(self, range_of(query, "r.a"), wanted)
            check_same(self, room_of(query, "r.a"), room)
            check_same(self, is_fixed(query, "r.a"), room == 1)
            check_same(self, range_of(query, "r.b"), (None, None))

    def test_of_texts(self):
        for texts, wanted, room in (([], [], 3), (["x"], ["x"], 1), (["x", "x"], ["x"], 1), (["x", ""], ["", "x"], 0), ([""], [""], 1),
                                    (["z", "x", "y", "x"], ["x", "y", "z"], 0)):
            query = simple(filters=[("r.c", "=", text) for text in texts])
            check_same(self, range_of(query, "r.c"), wanted)
            check_same(self, room_of(query, "r.c"), room)
            check_same(self, is_fixed(query, "r.c"), room == 1)
            for text in ("", "x", "y", "abc"):
                check_same(self, in_range(query, "r.c", text), all(text == asked for asked in texts))

    def test_the_filters_of_the_whole_class_count(self):
        query = query_of(filters=[("r.b", ">=", 2), ("t.e", "<", 4), ("s.b", ">", 1), ("t.a", "=", 9)])
        for reference in ("r.b", "s.b", "t.e"):
            check_same(self, range_of(query=query, reference=reference), (2, 3))
            check_same(self, room_of(query=query, reference=reference), 2)
        check_same(self, range_of(query, "t.a"), (9, 9))
        check_same(self, range_of(query, "r.a"), (None, None))
        texts = simple(("r", "s"), equalities=[("r.c", "s.d")], filters=[("r.c", "=", "x"), ("s.d", "=", "y")])
        check_same(self, range_of(texts, "r.c"), ["x", "y"])
        check_same(self, room_of(texts, "s.d"), 0)

    def test_fixed(self):
        query = query_of(filters=[("t.e", "=", 4), ("r.a", ">", 3), ("r.a", "<", 5), ("t.a", ">", 3)])
        found = [reference for reference in REFERENCES if is_fixed(query=query, reference=reference)]
        check_same(self, found, ["r.a", "r.b", "s.b", "t.e"])

    def test_in_range(self):
        query = query_of(filters=[("t.e", ">", -1), ("r.b", "<=", 2)])
        for reference in ("r.b", "s.b", "t.e"):
            self.assertEqual([value for value in range(-5, 6) if in_range(query, reference, value)], [0, 1, 2])
        check_true(self, in_range(query=query, reference="r.a", value=-BIG))
        check_true(self, in_range(query, "s.d", ""))
        check_false(self, in_range(query, "t.e", BIG))
        check_true(self, in_range(simple(filters=[("r.a", "=", BIG)]), "r.a", BIG))
        check_false(self, in_range(simple(filters=[("r.a", "=", BIG)]), "r.a", BIG - 1))


class UnknownReferences(unittest.TestCase):
    def test_what_is_no_reference_to_a_table_of_the_query(self):
        query = simple(("r", "s"), equalities=[("r.b", "s.b")])
        wrong = ["t.a", "t.e", "alone.a", "r.z", "r.coming", "r", "a", "r.", ".a", "R.a", "r.a ", "r.a.b", ("r", "a"), ("r.a",), ["r.a"]]
        for value in odd_values() + wrong:
            told = {"value": value}
            for function in (class_of, range_of, room_of, is_fixed):
                check_error(self, UnknownName, told, function, query, value)
            check_error(self, UnknownName, told, in_range, query, value, 1)


if __name__ == "__main__":
    unittest.main()
