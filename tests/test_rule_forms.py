"""[8], [9]: columns, rules, and which vectors break them."""

import unittest

from pairsigns.errors import InvalidColumns, InvalidRule, InvalidVector
from pairsigns.rules import breaks, is_columns, is_rule
from pairsigns.signs import Order, turned
from tests.rule_samples import (ALL_COLUMNS, BACK, FOUR, ONE, THREE, TWO, all_rules, names, rows_break, rows_with, some_rules,
                                spoilt)
from tests.samples import check_error, check_false, check_same, check_true, odd_values, row_vectors

RESERVED = ("coming", "down", "up", "none", "key", "never", "orders")
GOOD_NAMES = ("a", "z", "abcdefgh", "determ", "number", "text", "table", "first", "nones", "keys", "order", "comingx", "ups", "sort")
BAD_NAMES = RESERVED + ("", "abcdefghi", "A", "aB", "a b", "a ", " a", "a.b", "a1", "a_b", "a\n", "`", "{", ".", "-", "a" * 100)
RULES_OF_EVERY_KIND = (
    ("key", ()), ("key", ("a",)), ("key", ("a", "b")), ("determines", (), "b"), ("determines", ("b",), "a"),
    ("orders", (("a", "up"),), (("b", "down"), ("coming", "up"))), ("orders", (("coming", "down"), ("a", "up")), (("coming", "up"),)),
    ("never", (("a", -1),)), ("never", (("a", 0), ("b", 1))), ("never", (("b", 1), ("coming", -1))), ("never", (("coming", 1),)),
)


def valid_columns():
    """What of the values of every kind are columns."""
    return [(("a", "number"),)]


class Columns(unittest.TestCase):
    def test_columns(self):
        for columns in ALL_COLUMNS:
            check_true(self, is_columns(columns))
            check_true(self, is_columns(value=columns))

    def test_names(self):
        for name in GOOD_NAMES:
            check_true(self, is_columns(((name, "text"),)), name)
        for name in BAD_NAMES:
            check_false(self, is_columns(((name, "text"),)), name)
            check_false(self, is_columns((("a", "text"), (name, "text"))), name)

    def test_kinds(self):
        for kind in ("number", "text"):
            check_true(self, is_columns((("a", kind),)))
        for kind in ("numbers", "Number", "", "txt", "integer", "int", None, True, 0, int, str, ("text",), ["text"]):
            check_false(self, is_columns((("a", kind),)), kind)

    def test_how_many(self):
        five = FOUR + (("e", "text"),)
        check_false(self, is_columns(()))
        for many in range(1, 5):
            check_true(self, is_columns(five[:many]))
        check_false(self, is_columns(five))
        check_false(self, is_columns(tuple((letter, "text") for letter in "abcdefghijklmnopqrstuvwxyz")))

    def test_names_are_different(self):
        check_false(self, is_columns((("a", "number"), ("a", "number"))))
        check_false(self, is_columns((("a", "number"), ("a", "text"))))
        check_false(self, is_columns((("b", "number"), ("a", "text"), ("c", "text"), ("a", "text"))))
        check_true(self, is_columns((("a", "number"), ("aa", "number"))))

    def test_tuples_are_not_lists(self):
        check_false(self, is_columns([("a", "number")]))
        check_false(self, is_columns((["a", "number"],)))
        check_false(self, is_columns((("a", "number"), ["b", "number"])))

    def test_values_of_every_kind(self):
        for value in odd_values():
            check_same(self, is_columns(value), value in valid_columns())
            check_same(self, is_columns((value,)), value in (("a", "number"),))
            check_false(self, is_columns((("x", "text"), (value, "number"), None)))
            check_same(self, is_columns((("x", value),)), value in ("number", "text"))

    def test_one_part_spoilt(self):
        for columns in (ONE, TWO):
            for value in spoilt(columns, odd_values()):
                wanted = repr(value) in {repr(other) for other in self.some_columns()}
                check_same(self, is_columns(value), wanted)

    def some_columns(self):
        """All columns into which one part that is spoilt can turn the ones above."""
        kinds, letters = ("number", "text"), ("a", "b", "A", "abc", "number", "x")
        one = [(name, kind) for name in letters if name != "A" for kind in kinds]
        return [(column,) for column in one] + [(column, other) for column in one for other in one if column[0] != other[0]]


class RuleForms(unittest.TestCase):
    def test_all_rules_for_few_columns(self):
        for columns in (ONE, TWO, BACK):
            for rule in all_rules(columns):
                check_true(self, is_rule(columns, rule), rule)

    def test_rules_for_more_columns(self):
        for columns in (THREE, FOUR):
            for rule in some_rules(columns):
                check_true(self, is_rule(columns=columns, value=rule), rule)

    def test_one_part_spoilt(self):
        allowed = {repr(rule) for rule in all_rules(TWO)}
        for rule in RULES_OF_EVERY_KIND:
            check_true(self, is_rule(TWO, rule), rule)
            for value in spoilt(rule, odd_values()):
                check_same(self, is_rule(TWO, value), repr(value) in allowed)

    def test_words_changed(self):
        for word in ("", "Key", "keys", "determine", "order", "nevers", "and", None, 0, True, ("key",)):
            for parts in (((),), (("a",),), (("a",), "b"), ((("a", "up"),), (("b", "up"),)), ((("a", 1),),)):
                check_false(self, is_rule(TWO, (word,) + parts))

    def test_key(self):
        for wrong in (("b", "a"), ("a", "a"), ("c",), ("coming",), ("a", "coming"), ("",), "a", "ab", ["a"], None, ("a", "b", "b")):
            check_false(self, is_rule(TWO, ("key", wrong)), wrong)
        check_false(self, is_rule(TWO, ("key",)))
        check_false(self, is_rule(TWO, ("key", ("a",), ())))
        check_true(self, is_rule(BACK, ("key", ("b", "a"))))

    def test_determines(self):
        check_false(self, is_rule(TWO, ("determines", ("a",), "a")))
        check_false(self, is_rule(TWO, ("determines", ("a", "b"), "b")))
        check_false(self, is_rule(THREE, ("determines", ("a", "x"), "m")))
        check_true(self, is_rule(THREE, ("determines", ("x", "a"), "m")))
        for wrong in ("coming", "c", "", None, 0, ("b",), ["b"]):
            check_false(self, is_rule(TWO, ("determines", ("a",), wrong)), wrong)
        check_false(self, is_rule(TWO, ("determines", ("coming",), "a")))
        check_false(self, is_rule(TWO, ("determines", ("a",), ("b",))))
        check_false(self, is_rule(TWO, ("determines", ("a",), "b", "b")))

    def test_orders(self):
        good = (("a", "up"),)
        for wrong in ((), (("a", "up"), ("a", "down")), (("c", "up"),), (("t.a", "up"),), (("none", "up"),), [("a", "up")],
                      (["a", "up"],), (("a", "Up"),), (("a",),), (("a", "up", "up"),), ("a", "up"), "a", Order(good), None, ((),)):
            check_false(self, is_rule(TWO, ("orders", wrong, good)), wrong)
            check_false(self, is_rule(TWO, ("orders", good, wrong)), wrong)
        check_true(self, is_rule(TWO, ("orders", good, good)))

    def test_orders_have_at_most_four_entries(self):
        five = tuple((name, "up") for name in names(FOUR) + ("coming",))
        for many in range(1, 6):
            check_same(self, is_rule(FOUR, ("orders", five[:many], five[:1])), many < 5)
            check_same(self, is_rule(FOUR, ("orders", five[:1], five[5 - many:])), many < 5)

    def test_never(self):
        for wrong in ((), (("b", 1), ("a", 1)), (("a", 1), ("a", 1)), (("a", 1), ("a", -1)), (("coming", 1), ("a", 1)),
                      (("coming", 0),), (("a", 1), ("coming", 0)), (("c", 1),), (("a", 2),), (("a", -2),), (("a", True),),
                      (("a", False),), (("coming", True),), (("a", 1), ("b", False)), (("a", "+"),), (["a", 1],), [("a", 1)],
                      ("a", 1), (("a",),), (("a", 1, 1),), (("a", 1), ()), (("a", (1,)),), "a+", (("a", None),)):
            check_false(self, is_rule(TWO, ("never", wrong)), wrong)

    def test_rules_for_other_columns(self):
        for value in (("key", ("b",)), ("determines", (), "b"), ("orders", (("b", "up"),), (("a", "up"),)), ("never", (("b", 0),))):
            check_true(self, is_rule(TWO, value))
            check_false(self, is_rule(ONE, value))

    def test_values_of_every_kind_for_columns(self):
        for value in odd_values() + [list(ONE), (), FOUR + (("e", "text"),), (("coming", "text"),)]:
            if value not in valid_columns():
                check_error(self, InvalidColumns, {"position": -1}, is_rule, value, ("key", ()))
                check_error(self, InvalidColumns, {"position": -1}, is_rule, value, None)


class BrokenRules(unittest.TestCase):
    def test_against_rows(self):
        for columns in (ONE, TWO, BACK):
            rules = all_rules(columns)
            for rule in rules[::max(1, len(rules) // 1201)]:
                for vector in row_vectors(len(columns)):
                    check_same(self, breaks(columns, rule, vector), rows_break(rule, *rows_with(columns, vector)))

    def test_against_rows_of_more_columns(self):
        for columns in (THREE, FOUR):
            rules = some_rules(columns)
            vectors = row_vectors(len(columns))
            for at, rule in enumerate(rules):
                for vector in vectors[at % 7::7]:
                    check_same(self, breaks(columns, rule, vector), rows_break(rule, *rows_with(columns, vector)))

    def test_the_same_for_the_turned_vector(self):
        for rule in RULES_OF_EVERY_KIND:
            for vector in row_vectors(2):
                check_same(self, breaks(TWO, rule, vector), breaks(TWO, rule, turned(vector)))

    def test_by_hand(self):
        for rule, vector, wanted in (
                (("key", ()), (1, -1, 1), True),
                (("key", ("a",)), (0, 1, -1), True),
                (("key", ("a",)), (1, 0, -1), False),
                (("key", ("a", "b")), (0, 1, -1), False),
                (("determines", (), "a"), (1, 0, 1), True),
                (("determines", ("a",), "b"), (0, 1, 1), True),
                (("determines", ("a",), "b"), (0, 0, 1), False),
                (("determines", ("a",), "b"), (1, 1, 1), False),
                (("orders", (("a", "up"),), (("b", "up"),)), (0, 1, 1), True),
                (("orders", (("a", "up"),), (("b", "up"),)), (0, -1, 1), True),
                (("orders", (("a", "up"),), (("b", "up"),)), (1, 0, 1), False),
                (("orders", (("a", "up"),), (("b", "up"),)), (-1, 1, 1), True),
                (("orders", (("a", "up"),), (("b", "down"),)), (-1, 1, 1), False),
                (("orders", (("coming", "up"),), (("a", "up"), ("b", "down"))), (0, 1, -1), False),
                (("orders", (("coming", "up"),), (("a", "up"), ("b", "down"))), (0, 1, 1), True),
                (("never", (("a", -1), ("b", 1))), (1, -1, 1), True),
                (("never", (("a", -1), ("b", 1))), (1, 1, 1), False),
                (("never", (("b", 0), ("coming", -1))), (1, 0, 1), True),
                (("never", (("a", 1), ("coming", -1))), (1, 0, 1), False)):
            check_same(self, breaks(TWO, rule, vector), wanted)
            check_same(self, breaks(columns=TWO, rule=rule, vector=turned(vector)), wanted)

    def test_wrong_columns_come_first(self):
        for value in odd_values() + [list(TWO)]:
            if value not in valid_columns():
                check_error(self, InvalidColumns, {"position": -1}, breaks, value, None, None)

    def test_wrong_rules_come_second(self):
        for value in odd_values() + [("key", ("c",)), ("never", (("a", True),)), ["key", ()], ("orders", (), ())]:
            if value != ("key", ("a",)):
                check_error(self, InvalidRule, {"position": -1}, breaks, TWO, value, (0, 0, 1))
                check_error(self, InvalidRule, {"position": -1}, breaks, TWO, value, None)

    def test_wrong_vectors_come_third(self):
        wrong = odd_values() + [(0, 0, 0), (1, 1, 0), (0, 1), (1, 1), (0, 0, 0, 1), (True, 0, 1), (0, False, 1), (0, 0, True),
                                [0, 0, 1], (0, 0, 2), (0, -2, 1), (0, None, 1), (0, "0", 1), "00+", ((0, 0, 1),), (1,), ()]
        for rule in RULES_OF_EVERY_KIND:
            for value in wrong:
                check_error(self, InvalidVector, {"value": value}, breaks, TWO, rule, value)


if __name__ == "__main__":
    unittest.main()
