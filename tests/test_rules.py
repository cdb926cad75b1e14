"""[10]: Rules, and which vectors they let."""

import random
import unittest

from pairsigns.errors import InvalidColumns, InvalidRule, InvalidVector, TooMany
from pairsigns.rules import Rules
from pairsigns.signs import Order, turned
from tests.rule_samples import ALL_COLUMNS, BACK, FOUR, ONE, THREE, TWO, all_rules, names, rows_break, rows_with, some_rules
from tests.samples import check_error, check_false, check_same, check_true, odd_values, row_vectors

KEY = ("key", ("a",))
SORTED = ("orders", (("a", "up"),), (("b", "up"),))
NEVER = ("never", (("a", 1), ("coming", -1)))
FIXED = ("determines", (), "b")
NINE = [("never", (("a", first), ("b", second))) for first in (-1, 0, 1) for second in (-1, 0, 1)]


def expected_vectors(columns, rules):
    return [vector for vector in row_vectors(len(columns))
            if not any(rows_break(rule, *rows_with(columns, vector)) for rule in rules)]


def no_rules_for_two():
    """Values of every kind, and rules that are spoilt, that are no rules for TWO."""
    return [value for value in odd_values() if value != KEY] + [
        ("key", ("b", "a")), ("key", ("c",)), ("key", ["a"]), ["key", ("a",)], ("never", (("a", True),)),
        ("never", (("a", 1), ("coming", True))), ("never", (("a", False),)), ("determines", ("a",), "a"), "key a"]


class MakingRules(unittest.TestCase):
    def test_without_rules(self):
        for columns in ALL_COLUMNS:
            for rules in (Rules(columns), Rules(columns, ()), Rules(columns, []), Rules(columns=columns, rules=())):
                check_same(self, rules.columns, columns)
                check_same(self, rules.rules, ())
                check_same(self, rules.names(), names(columns))
                self.assertEqual(len(rules), 0)

    def test_with_rules(self):
        listed = [NEVER, KEY, SORTED]
        for rules in (Rules(TWO, listed), Rules(TWO, tuple(listed)), Rules(rules=listed, columns=TWO)):
            check_same(self, rules.rules, (NEVER, KEY, SORTED))
            check_same(self, rules.columns, TWO)
            check_same(self, rules.names(), ("a", "b"))
            self.assertEqual(len(rules), 3)

    def test_most_rules(self):
        check_same(self, Rules.MAX_RULES, 8)
        check_same(self, Rules(ONE).MAX_RULES, 8)
        self.assertEqual(Rules(TWO, NINE[:8]).rules, tuple(NINE[:8]))
        check_error(self, TooMany, {"kind": "rules", "limit": 8}, Rules, TWO, NINE)
        check_error(self, TooMany, {"kind": "rules", "limit": 8}, Rules, TWO, tuple(some_rules(TWO)))

    def test_wrong_columns_come_first(self):
        wrong = odd_values() + [list(TWO), (), (("coming", "text"),), (("a", "text"), ("a", "text")), FOUR + (("e", "text"),)]
        for value in wrong:
            check_error(self, InvalidColumns, {"position": -1}, Rules, value)
            check_error(self, InvalidColumns, {"position": -1}, Rules, value, None)
            check_error(self, InvalidColumns, {"position": -1}, Rules, value, [None])

    def test_rules_that_are_no_list_come_second(self):
        for value in odd_values() + [{KEY: True}, {KEY}, iter([KEY]), "key a", Rules(TWO, [KEY]), Order()]:
            if not isinstance(value, (list, tuple)):
                check_error(self, InvalidRule, {"position": -1}, Rules, TWO, value)

    def test_a_rule_is_no_list_of_rules(self):
        check_error(self, InvalidRule, {"position": 0}, Rules, TWO, KEY)

    def test_wrong_rules_come_third(self):
        for value in no_rules_for_two():
            check_error(self, InvalidRule, {"position": 0}, Rules, TWO, [value])
            check_error(self, InvalidRule, {"position": 2}, Rules, TWO, (KEY, NEVER, value, KEY))
            check_error(self, InvalidRule, {"position": 9}, Rules, TWO, [*NINE, value])

    def test_a_rule_twice(self):
        check_error(self, InvalidRule, {"position": 1}, Rules, TWO, [KEY, KEY])
        check_error(self, InvalidRule, {"position": 3}, Rules, TWO, [KEY, SORTED, NEVER, SORTED, None])
        check_error(self, InvalidRule, {"position": 9}, Rules, TWO, [*NINE, NINE[0]])
        check_error(self, InvalidRule, {"position": 1}, Rules, TWO, [SORTED, None, SORTED])

    def test_true_is_not_one(self):
        rule = ("never", (("a", 1),))
        check_error(self, InvalidRule, {"position": 0}, Rules, TWO, [("never", (("a", True),)), rule])
        check_error(self, InvalidRule, {"position": 1}, Rules, TWO, [rule, ("never", (("a", True),))])
        check_error(self, InvalidRule, {"position": 1}, Rules, TWO, [("never", (("a", 0),)), ("never", (("a", False),))])


class RulesNeverChange(unittest.TestCase):
    def test_what_was_passed_is_copied_and_left_as_it_was(self):
        passed = [KEY, NEVER]
        rules = Rules(TWO, passed)
        self.assertEqual(passed, [KEY, NEVER])
        passed.append(SORTED)
        passed[0] = None
        self.assertEqual(rules.rules, (KEY, NEVER))
        self.assertEqual(len(rules), 2)

    def test_returned_lists_are_new(self):
        rules = Rules(TWO, [KEY])
        found = rules.vectors()
        self.assertIsNot(found, rules.vectors())
        found.clear()
        check_same(self, rules.vectors(), expected_vectors(TWO, [KEY]))

    def test_properties_are_not_assigned(self):
        rules = Rules(TWO, [KEY])
        for name in ("columns", "rules"):
            with self.assertRaises(AttributeError):
                setattr(rules, name, ())
        self.assertEqual((rules.columns, rules.rules), (TWO, (KEY,)))

    def test_methods_make_new_rules(self):
        rules = Rules(TWO, [KEY, NEVER])
        rules.with_rule(SORTED)
        rules.without(KEY)
        self.assertEqual(rules.rules, (KEY, NEVER))


class LetVectors(unittest.TestCase):
    def test_all_vectors_are_let_without_rules(self):
        for columns in ALL_COLUMNS:
            found = Rules(columns).vectors()
            check_same(self, found, sorted(found))
            check_same(self, found, row_vectors(len(columns)))

    def test_some_rules_against_rows(self):
        dice = random.Random(10)
        for columns in ALL_COLUMNS:
            possible = some_rules(columns)
            for many in (1, 1, 2, 2, 3, 3, 5, 8):
                chosen = dice.sample(possible, many)
                self.check_rules(columns, chosen)

    def test_rules_one_by_one(self):
        for rule in all_rules(ONE):
            self.check_rules(ONE, [rule])
        for rule in some_rules(TWO)[::3]:
            self.check_rules(TWO, [rule])

    def check_rules(self, columns, chosen):
        rules = Rules(columns, chosen)
        let = expected_vectors(columns, chosen)
        check_same(self, rules.vectors(), let)
        for vector in row_vectors(len(columns)):
            broken = [rule for rule in chosen if rows_break(rule, *rows_with(columns, vector))]
            check_same(self, rules.lets(vector), broken == [])
            check_same(self, rules.first_broken(vector), broken[0] if broken else None)
            self.assertEqual(turned(vector) in let, vector in let)

    def test_by_hand(self):
        check_same(self, Rules(ONE, [KEY]).vectors(), [(-1, -1), (-1, 1), (1, -1), (1, 1)])
        check_same(self, Rules(ONE, [("orders", (("coming", "up"),), (("a", "up"),))]).vectors(), [(-1, -1), (0, -1), (0, 1), (1, 1)])
        check_same(self, Rules(ONE, [("key", ())]).vectors(), [])
        check_same(self, Rules(TWO, [KEY, FIXED]).vectors(), [(-1, 0, -1), (-1, 0, 1), (1, 0, -1), (1, 0, 1)])

    def test_the_first_of_several_broken_rules(self):
        for listed in ([KEY, FIXED, NEVER], [FIXED, KEY, NEVER], [NEVER, FIXED, KEY]):
            rules = Rules(TWO, listed)
            check_same(self, rules.first_broken((0, 1, 1)), min((KEY, FIXED), key=listed.index))
            check_same(self, rules.first_broken((1, 1, -1)), min((NEVER, FIXED), key=listed.index))
            check_same(self, rules.first_broken(vector=(1, 0, 1)), None)
            check_true(self, rules.lets(vector=(1, 0, 1)))
            check_false(self, rules.lets((0, 1, 1)))

    def test_what_is_not_the_vector_of_two_rows(self):
        wrong = odd_values() + [(0, 0, 0), (1, 1, 0), (0, 1), (1, 1), (0, 0, 0, 1), (True, 0, 1), (0, False, 1), (0, 0, True),
                                [0, 0, 1], (0, 0, 2), (0, -2, 1), (0, None, 1), (0, "0", 1), "00+", ((0, 0, 1),), ()]
        for rules in (Rules(TWO), Rules(TWO, [KEY, NEVER]), Rules(TWO, [("key", ())])):
            for value in wrong:
                check_error(self, InvalidVector, {"value": value}, rules.lets, value)
                check_error(self, InvalidVector, {"value": value}, rules.first_broken, value)


class RulesMoreAndLess(unittest.TestCase):
    def test_with_rule(self):
        rules = Rules(TWO).with_rule(NEVER).with_rule(rule=KEY)
        self.assertIs(type(rules), Rules)
        check_same(self, rules.rules, (NEVER, KEY))
        check_same(self, rules.columns, TWO)
        self.assertEqual(Rules(TWO, NINE[:7]).with_rule(NINE[7]).rules, tuple(NINE[:8]))

    def test_with_rule_refuses(self):
        one, zero = ("never", (("a", 1),)), ("never", (("b", 0),))
        rules = Rules(TWO, [KEY, one, zero])
        for value in no_rules_for_two() + [KEY, one, zero, ("never", (("b", False),)), rules]:
            check_error(self, InvalidRule, {"position": -1}, rules.with_rule, value)
        self.assertEqual(rules.rules, (KEY, one, zero))

    def test_with_rule_refuses_before_it_counts(self):
        rules = Rules(TWO, NINE[:7] + [KEY])
        for value in no_rules_for_two() + [KEY, NINE[0], rules]:
            check_error(self, InvalidRule, {"position": -1}, rules.with_rule, value)

    def test_with_rule_has_a_limit(self):
        rules = Rules(TWO, NINE[:8])
        check_error(self, TooMany, {"kind": "rules", "limit": 8}, rules.with_rule, NINE[8])
        check_error(self, InvalidRule, {"position": -1}, rules.with_rule, NINE[0])
        self.assertEqual(rules.rules, tuple(NINE[:8]))

    def test_without(self):
        rules = Rules(TWO, [NEVER, KEY, SORTED])
        self.assertIs(type(rules.without(KEY)), Rules)
        check_same(self, rules.without(KEY).rules, (NEVER, SORTED))
        check_same(self, rules.without(rule=NEVER).rules, (KEY, SORTED))
        check_same(self, rules.without(SORTED).without(NEVER).without(KEY).rules, ())
        check_same(self, rules.without(KEY).columns, TWO)

    def test_without_refuses(self):
        rules = Rules(TWO, [KEY, ("never", (("a", 1),)), ("never", (("b", 0),))])
        for value in no_rules_for_two() + [NEVER, SORTED, ("never", (("b", False),)), ("key", ("b",)), rules]:
            check_error(self, InvalidRule, {"position": -1}, rules.without, value)
        check_error(self, InvalidRule, {"position": -1}, rules.without(KEY).without, KEY)
        self.assertEqual(len(rules), 3)

    def test_in(self):
        rules = Rules(TWO, [KEY, SORTED])
        check_true(self, KEY in rules)
        check_true(self, SORTED in rules)
        check_false(self, NEVER in rules)
        check_false(self, KEY in Rules(TWO))
        check_false(self, KEY in Rules(TWO, [NEVER]))

    def test_in_takes_any_value(self):
        rules = Rules(TWO, [KEY, ("never", (("a", 1), ("coming", 1))), ("never", (("a", 0),))])
        for value in no_rules_for_two() + [("never", (("a", True), ("coming", 1))), ("never", (("a", 1), ("coming", True))), rules]:
            check_false(self, value in rules)
        for value in odd_values():
            check_same(self, value in rules, value == KEY)


class EqualRules(unittest.TestCase):
    def test_equal_if_columns_and_rules_are(self):
        listed = [(), (KEY,), (NEVER,), (KEY, NEVER), (NEVER, KEY), (KEY, NEVER, SORTED)]
        for one in listed:
            for other in listed:
                check_same(self, Rules(TWO, one) == Rules(TWO, list(other)), one == other)
                check_same(self, Rules(TWO, one) != Rules(TWO, list(other)), one != other)

    def test_other_columns(self):
        for one in ALL_COLUMNS:
            for other in ALL_COLUMNS:
                check_same(self, Rules(one) == Rules(other), one == other)
        check_false(self, Rules((("a", "number"),)) == Rules((("a", "text"),)))
        check_false(self, Rules(TWO, [KEY]) == Rules(BACK, [KEY]))

    def test_not_equal_to_values_of_other_kinds(self):
        for rules in (Rules(ONE), Rules(TWO, [KEY])):
            for value in odd_values() + [rules.rules, list(rules.rules), rules.columns, len(rules), Order()]:
                if not isinstance(value, Rules):
                    check_false(self, rules == value)
                    check_true(self, rules != value)
                    check_false(self, value == rules)

    def test_not_equal_to_what_calls_itself_equal_to_everything(self):
        class Everything:
            def __eq__(self, other):
                return True
        check_false(self, Rules(ONE) == Everything())


class SampleColumns(unittest.TestCase):
    def test_names_in_sequence(self):
        check_same(self, Rules(BACK).names(), ("b", "a"))
        check_same(self, Rules(THREE).names(), ("x", "a", "m"))
        check_same(self, Rules(FOUR).names(), ("d", "c", "b", "abcdefgh"))


if __name__ == "__main__":
    unittest.main()
