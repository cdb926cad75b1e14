"""[35] and [4]: rules that are found in rows, and the shortest lists of them."""

import copy
import random
import unittest
from itertools import combinations

from pairsigns.errors import InvalidColumns, InvalidRow, RuleBroken, TooMany
from pairsigns.finding import found_rules, shortest_rules
from pairsigns.judging import follows
from pairsigns.rules import Rules, is_rule, rule_text
from pairsigns.tables import Catalog, Database
from tests.rule_samples import ALL_COLUMNS, FOUR, ONE, THREE, TWO, names, never_rules
from tests.samples import BIG, check_error, check_same, odd_values, vectors_of_length

TEXTS = ("", "a", "ab", "b", "zz")


def random_rows(dice, columns, many):
    most = dice.choice((1, 2, 4))
    return [tuple(dice.randint(0, most) if kind == "number" else dice.choice(TEXTS[:most + 1]) for _, kind in columns) for _ in range(many)]


def seen_in(rows):
    """The vectors, without coming, of each two of the rows, either way round."""
    return {tuple((one > other) - (one < other) for one, other in zip(*pair)) for two in combinations(rows, 2) for pair in (two, two[::-1])}


def holds(columns, seen, signs):
    spots = [(names(columns).index(name), sign) for name, sign in signs]
    return not any(all(vector[at] == sign for at, sign in spots) for vector in seen)


def found_by_definition(columns, rows):
    """[35] word by word."""
    seen, found = seen_in(rows), []
    for _, signs in never_rules(columns):
        nonzero = [sign for _, sign in signs if sign]
        if any(name == "coming" for name, _ in signs) or nonzero[:1] == [1] or not holds(columns, seen, signs):
            continue
        if len(signs) == 1 or not any(holds(columns, seen, signs[:at] + signs[at + 1:]) for at in range(len(signs))):
            found.append(("never", signs))
    spots = names(columns)
    return sorted(found, key=lambda rule: (len(rule[1]), [spots.index(name) for name, _ in rule[1]], [sign for _, sign in rule[1]]))


def lets(columns, rules):
    """The vectors that never-rules without coming let."""
    return {vector for vector in vectors_of_length(len(columns))
            if not any(all(turn * vector[names(columns).index(name)] == sign for name, sign in rule[1]) for rule in rules for turn in (1, -1))}


def shortest_by_definition(columns, rules):
    """The first of the smallest lists that let just the same vectors, found by trying all lists."""
    wanted = lets(columns, rules)
    for many in range(len(rules) + 1):
        for chosen in combinations(rules, many):
            if lets(columns, chosen) == wanted:
                return list(chosen)
    raise AssertionError


class FoundRules(unittest.TestCase):
    def texts(self, columns, rows):
        return [rule_text(rule) for rule in found_rules(columns, rows)]

    def test_examples(self):
        check_same(self, found_rules(ONE, []), [("never", (("a", -1),)), ("never", (("a", 0),))])
        check_same(self, found_rules(ONE, [(1,)]), [("never", (("a", -1),)), ("never", (("a", 0),))])
        check_same(self, found_rules(ONE, [(1,), (2,)]), [("never", (("a", 0),))])
        check_same(self, found_rules(ONE, [(1,), (1,)]), [("never", (("a", -1),))])
        check_same(self, found_rules(ONE, [(1,), (1,), (2,)]), [])
        check_same(self, found_rules(rows=[[1], [2]], columns=ONE), [("never", (("a", 0),))])
        check_same(self, self.texts(TWO, [(1, "a"), (2, "b"), (3, "b")]), ["never a0", "never a- b+"])
        check_same(self, self.texts(TWO, [(1, "b"), (2, "a"), (2, "b")]), ["never a- b-", "never a0 b0"])
        check_same(self, self.texts(TWO, []), ["never a-", "never a0", "never b-", "never b0"])
        check_same(self, self.texts(THREE, [("x", 1, 5), ("x", 1, 5)]), ["never x-", "never a-", "never m-"])

    def test_signs_that_do_not_begin_with_minus_are_left_out(self):
        rows = [(1, "a"), (1, "a"), (2, "b")]
        check_same(self, self.texts(TWO, rows), ["never a- b0", "never a- b+", "never a0 b-"])

    def test_rows_that_are_alike(self):
        for many in (2, 3, 60):
            check_same(self, self.texts(TWO, [(7, "x")] * many), ["never a-", "never b-"])

    def test_by_definition(self):
        dice, seen = random.Random(351), {}
        for columns in ALL_COLUMNS:
            for many in (0, 1, 2, 2, 3, 3, 4, 5, 6, 8, 10, 15, 20):
                rows = random_rows(dice, columns, many)
                kept = copy.deepcopy(rows)
                wanted = found_by_definition(columns, rows)
                check_same(self, found_rules(columns, rows), wanted)
                check_same(self, found_rules(columns, tuple([list(row) for row in rows])), wanted)
                self.assertEqual(rows, kept)
                for rule in wanted:
                    seen[len(rule[1])] = seen.get(len(rule[1]), 0) + 1
        self.assertEqual(sorted(seen), [1, 2, 3, 4], seen)

    def test_of_tables_that_keep_rules(self):
        """Every never-rule without coming that holds follows from the found ones, and no other one does."""
        dice = random.Random(352)
        for columns in (ONE, TWO, THREE):
            without_coming = [rule for rule in never_rules(columns) if rule[1][-1][0] != "coming"]
            for _ in range(12):
                database = Database(Catalog([("r", Rules(columns, dice.sample(without_coming, dice.randint(0, 2))), [])]))
                for row in random_rows(dice, columns, 8):
                    try:
                        database.insert("r", row)
                    except RuleBroken:
                        pass
                rows = [row for _, row in database.rows("r")]
                for found in (found_rules(columns, rows), shortest_rules(columns, rows)):
                    if len(found) <= 8:
                        rules = Rules(columns, found)
                        for rule in dice.sample(without_coming, min(20, len(without_coming))):
                            self.assertEqual(follows(rules, rule)[0] == "yes", holds(columns, seen_in(rows), rule[1]))

    def test_they_are_rules(self):
        for columns in ALL_COLUMNS:
            for rule in found_rules(columns, []):
                self.assertIs(is_rule(columns, rule), True)

    def test_sixty_rows_and_more(self):
        rows = [(number, "a") for number in range(60)]
        check_same(self, self.texts(TWO, rows), ["never a0", "never b-"])
        for function in (found_rules, shortest_rules):
            check_error(self, TooMany, {"kind": "rows", "limit": 60}, function, TWO, rows + [(60, "a")])
            check_error(self, InvalidRow, {"position": 60}, function, TWO, rows + [(60, 1)])
            check_error(self, InvalidRow, {"position": 61}, function, TWO, rows + [(60, "a"), (61,)])

    def test_great_numbers(self):
        check_same(self, self.texts(ONE, [(BIG,), (BIG - 1,)]), ["never a0"])

    def test_returned_lists_are_new(self):
        for function in (found_rules, shortest_rules):
            function(ONE, []).clear()
            self.assertEqual(len(function(ONE, [])), 2)


class ShortestRules(unittest.TestCase):
    def test_examples(self):
        check_same(self, shortest_rules(ONE, []), [("never", (("a", -1),)), ("never", (("a", 0),))])
        check_same(self, shortest_rules(ONE, [(1,), (1,), (2,)]), [])
        check_same(self, shortest_rules(rows=[], columns=TWO), [("never", (("a", -1),)), ("never", (("a", 0),))])
        check_same(self, shortest_rules(THREE, []), [("never", (("x", -1),)), ("never", (("x", 0),))])

    def test_by_trying_all_lists(self):
        dice, fewer, lengths = random.Random(353), 0, set()
        for columns in (ONE, TWO, THREE):
            for _ in range(60):
                rows = random_rows(dice, columns, dice.choice((0, 1, 2, 3, 4, 5, 6, 8)))
                found = found_rules(columns, rows)
                wanted = shortest_by_definition(columns, found)
                check_same(self, shortest_rules(columns, rows), wanted)
                fewer += len(wanted) < len(found)
                lengths.add(len(wanted))
        self.assertGreater(fewer, 30)
        self.assertGreater(len(lengths), 4)

    def test_four_columns(self):
        check_error(self, TooMany, {"kind": "columns", "limit": 3}, shortest_rules, FOUR, [])
        check_error(self, TooMany, {"kind": "rows", "limit": 60}, shortest_rules, FOUR, [(1, "a", 2, 3)] * 61)
        self.assertTrue(found_rules(FOUR, [(1, "a", 2, 3)]))


class WrongInputs(unittest.TestCase):
    def wrong(self, error, told, columns, rows):
        check_error(self, error, told, found_rules, columns, rows)
        check_error(self, error, told, shortest_rules, columns, rows)

    def test_columns(self):
        for value in odd_values() + [(), [("a", "number")], (("a", "number"), ("a", "text")), (("coming", "number"),), FOUR + (("z", "text"),)]:
            if value != (("a", "number"),):
                self.wrong(InvalidColumns, {"position": -1}, value, None)

    def test_rows(self):
        for value in odd_values():
            if not isinstance(value, (list, tuple)):
                self.wrong(InvalidRow, {"position": -1}, TWO, value)
            self.wrong(InvalidRow, {"position": 1}, TWO, [(1, "a"), value, None])
            if type(value) is not int:
                self.wrong(InvalidRow, {"position": 0}, TWO, [(value, "a")])
            if not isinstance(value, str):
                self.wrong(InvalidRow, {"position": 0}, TWO, [(1, value)])
        for row in ((1,), (1, "a", 1), ("a", 1), (1, "A"), (1, "a" * 13), "ab", {1: "a"}):
            self.wrong(InvalidRow, {"position": 2}, TWO, [(1, "a"), (2, "b"), row, (1,)])

    def test_which_error_comes_first(self):
        check_error(self, InvalidRow, {"position": 0}, shortest_rules, FOUR, [(1,)])
        self.wrong(InvalidRow, {"position": 0}, TWO, [None] * 61)
        self.wrong(InvalidColumns, {"position": -1}, None, [None] * 61)


if __name__ == "__main__":
    unittest.main()
