"""[9], [10]: which rules follow, which rules are the same, and what is left out."""

import random
import unittest

from pairsigns.errors import InvalidRule, Unlike
from pairsigns.judging import follows, left_out, same_rules
from pairsigns.rules import Rules
from tests.rule_samples import ALL_COLUMNS, BACK, FOUR, ONE, THREE, TWO, all_rules, names, rows_break, rows_with, some_rules
from tests.samples import check_error, check_false, check_same, check_true, odd_values, row_vectors

KEY = ("key", ("a",))
BOTH = ("key", ("a", "b"))
SORTED = ("orders", (("a", "up"),), (("b", "up"),))
MONTHS = (("day", "number"), ("month", "number"), ("year", "number"))
DAY_MONTH = ("orders", (("day", "up"),), (("month", "up"),))
MONTH_YEAR = ("orders", (("month", "up"),), (("year", "up"),))
DAY_YEAR = ("orders", (("day", "up"),), (("year", "up"),))


def let_by(columns, rules):
    """The let vectors, found by rows."""
    return [vector for vector in row_vectors(len(columns))
            if not any(rows_break(rule, *rows_with(columns, vector)) for rule in rules)]


def does_follow(columns, rules, rule):
    return not any(rows_break(rule, *rows_with(columns, vector)) for vector in let_by(columns, rules))


def needed_by_hand(columns, rules, rule):
    """The rules that remain, found by going over all positions from the last one on."""
    taken_out = set()
    for position in reversed(range(len(rules))):
        others = [kept for at, kept in enumerate(rules) if at not in taken_out | {position}]
        if does_follow(columns, others, rule):
            taken_out.add(position)
    return [kept for at, kept in enumerate(rules) if at not in taken_out]


def left_by_hand(columns, rules):
    taken_out = set()
    for position in reversed(range(len(rules))):
        others = [kept for at, kept in enumerate(rules) if at not in taken_out | {position}]
        if does_follow(columns, others, rules[position]):
            taken_out.add(position)
    return [kept for at, kept in enumerate(rules) if at not in taken_out]


def some_cases(seed, many):
    """Some columns with a few rules and one more rule."""
    dice = random.Random(seed)
    for columns in ALL_COLUMNS:
        possible = some_rules(columns)
        for _ in range(many):
            listed = dice.sample(possible, min(len(possible), dice.choice((0, 1, 1, 2, 2, 3, 4, 8))))
            yield columns, listed, dice.choice(possible + listed)


class Following(unittest.TestCase):
    def test_against_rows(self):
        seen = set()
        for columns, listed, rule in some_cases(1, 25):
            answer = follows(Rules(columns, listed), rule)
            seen.add(answer[0])
            self.check_answer(columns, listed, rule, answer)
        self.assertEqual(seen, {"yes", "no"})

    def test_every_rule_for_one_column(self):
        for one in all_rules(ONE):
            for other in all_rules(ONE):
                self.check_answer(ONE, [one], other, follows(Rules(ONE, [one]), other))

    def check_answer(self, columns, listed, rule, answer):
        if does_follow(columns, listed, rule):
            check_same(self, answer, ("yes", needed_by_hand(columns, listed, rule)))
        else:
            self.assertIs(type(answer), tuple)
            self.assertEqual((len(answer), answer[0]), (3, "no"))
            self.check_rows(columns, listed, rule, answer[1], answer[2])

    def check_rows(self, columns, listed, rule, one, other):
        for row in (one, other):
            self.assertIs(type(row), tuple)
            self.assertEqual([type(value) for value in row], [{"number": int, "text": str}[kind] for _, kind in columns])
            self.assertTrue(all(len(value) <= 12 and value.strip("abcdefghijklmnopqrstuvwxyz") == ""
                                for value in row if isinstance(value, str)))
        vector = tuple((value > against) - (value < against) for value, against in zip(one, other, strict=True)) + (-1,)
        told = rows_with(columns, vector)
        self.assertFalse(any(rows_break(kept, *told) for kept in listed))
        self.assertTrue(rows_break(rule, *told))

    def test_by_hand(self):
        check_same(self, follows(Rules(MONTHS, [DAY_MONTH, MONTH_YEAR]), DAY_YEAR), ("yes", [DAY_MONTH, MONTH_YEAR]))
        check_same(self, follows(Rules(TWO, [KEY]), BOTH), ("yes", [KEY]))
        check_same(self, follows(Rules(TWO, [SORTED]), ("determines", ("a",), "b")), ("yes", [SORTED]))
        self.assertEqual(follows(Rules(TWO, [BOTH]), KEY)[0], "no")
        self.assertEqual(follows(Rules(MONTHS, [DAY_MONTH, MONTH_YEAR]), ("orders", (("year", "up"),), (("day", "up"),)))[0], "no")

    def test_the_last_rules_are_taken_out_first(self):
        check_same(self, follows(Rules(TWO, [KEY, BOTH]), BOTH), ("yes", [KEY]))
        check_same(self, follows(Rules(TWO, [BOTH, KEY]), BOTH), ("yes", [BOTH]))
        check_same(self, follows(Rules(MONTHS, [DAY_YEAR, DAY_MONTH, MONTH_YEAR]), DAY_YEAR), ("yes", [DAY_YEAR]))
        check_same(self, follows(Rules(MONTHS, [DAY_MONTH, MONTH_YEAR, DAY_YEAR]), DAY_YEAR), ("yes", [DAY_MONTH, MONTH_YEAR]))
        check_same(self, follows(Rules(MONTHS, [("key", ("year",)), DAY_MONTH, MONTH_YEAR, ("key", ())]), DAY_YEAR),
                   ("yes", [DAY_MONTH, MONTH_YEAR]))

    def test_no_rules(self):
        for columns in ALL_COLUMNS:
            first = columns[0][0]
            same = ("orders", ((first, "up"),), ((first, "up"),))
            check_same(self, follows(Rules(columns), same), ("yes", []))
            check_same(self, follows(Rules(columns, [("key", ())]), same), ("yes", []))
            self.assertEqual(follows(Rules(columns), ("key", ()))[0], "no")
            self.assertEqual(follows(Rules(columns), ("key", names(columns)))[0], "no")

    def test_two_rows_that_are_alike_in_all_columns(self):
        answer, one, other = follows(Rules(FOUR), ("key", names(FOUR)))
        self.assertEqual((answer, one), ("no", other))

    def test_everything_follows_if_there_is_at_most_one_row(self):
        rules = Rules(TWO, [SORTED, ("key", ())])
        for rule in some_rules(TWO):
            self.assertEqual(follows(rules, rule)[0], "yes")

    def test_the_place_of_one_is_the_smaller_one(self):
        early = ("never", (("a", -1), ("coming", -1)))
        _, one, other = follows(Rules(ONE), early)
        self.assertLess(one, other)
        late = ("orders", (("coming", "up"),), (("a", "up"),))
        _, one, other = follows(Rules(ONE), late)
        self.assertGreater(one, other)

    def test_what_is_no_rule_for_the_columns(self):
        rules = Rules(TWO, [KEY, ("never", (("a", 1),))])
        wrong = [value for value in odd_values() if value != KEY] + [
            ("key", ("b", "a")), ("key", ("c",)), ("key", ["a"]), ["key", ("a",)], ("never", (("a", True),)), "key a",
            ("never", (("coming", True),)), ("determines", ("a",), "a"), [KEY], (KEY,)]
        for value in wrong:
            check_error(self, InvalidRule, {"position": -1}, follows, rules, value)
            check_error(self, InvalidRule, {"position": -1}, follows, Rules(TWO, [("key", ())]), value)

    def test_returned_lists_are_new(self):
        rules = Rules(TWO, [KEY])
        first = follows(rules, BOTH)
        first[1].clear()
        check_same(self, follows(rules, BOTH), ("yes", [KEY]))
        self.assertEqual(rules.rules, (KEY,))


class TheSameRules(unittest.TestCase):
    def test_against_rows(self):
        seen = set()
        for columns, listed, rule in some_cases(2, 12):
            for other in (listed[::-1], listed[1:], [rule], listed + [rule] if rule not in listed and len(listed) < 8 else []):
                wanted = let_by(columns, listed) == let_by(columns, other)
                seen.add(wanted)
                check_same(self, same_rules(Rules(columns, listed), Rules(columns, other)), wanted)
        self.assertEqual(seen, {True, False})

    def test_by_hand(self):
        check_true(self, same_rules(Rules(TWO), Rules(TWO)))
        check_true(self, same_rules(Rules(TWO, [KEY]), Rules(TWO, [BOTH, KEY])))
        check_true(self, same_rules(one=Rules(TWO, [SORTED]), other=Rules(TWO, [("orders", (("a", "down"),), (("b", "down"),))])))
        check_false(self, same_rules(Rules(TWO, [KEY]), Rules(TWO, [BOTH])))
        check_false(self, same_rules(Rules(TWO, [KEY]), Rules(TWO)))
        check_false(self, same_rules(Rules(TWO), Rules(TWO, [KEY])))
        check_false(self, same_rules(Rules(TWO, [KEY]), Rules(TWO, [("key", ("b",))])))

    def test_other_columns(self):
        for one in ALL_COLUMNS:
            for other in ALL_COLUMNS:
                if one != other:
                    check_error(self, Unlike, {}, same_rules, Rules(one), Rules(other))
        check_error(self, Unlike, {}, same_rules, Rules((("a", "number"),)), Rules((("a", "text"),)))
        check_error(self, Unlike, {}, same_rules, Rules(TWO, [("key", ())]), Rules(BACK, [("key", ())]))


class LeavingOut(unittest.TestCase):
    def test_against_rows(self):
        shorter = 0
        for columns, listed, rule in some_cases(3, 15):
            if rule not in listed and len(listed) < 8:
                listed = [rule] + listed
            rules = Rules(columns, listed)
            found = left_out(rules)
            self.assertIs(type(found), Rules)
            self.assertEqual(found.columns, columns)
            check_same(self, list(found.rules), left_by_hand(columns, listed))
            check_true(self, same_rules(found, rules))
            self.assertEqual(rules.rules, tuple(listed))
            shorter += len(found) < len(rules)
        self.assertGreater(shorter, 10)

    def test_by_hand(self):
        for listed, wanted in (([], []), ([KEY], [KEY]), ([KEY, BOTH], [KEY]), ([BOTH, KEY], [KEY]),
                               ([BOTH, SORTED, KEY], [BOTH, SORTED]), ([KEY, SORTED, BOTH], [KEY, SORTED]),
                               ([("orders", (("a", "up"),), (("a", "up"),))], []),
                               ([KEY, ("key", ())], [("key", ())]), ([("key", ()), KEY], [("key", ())])):
            check_same(self, left_out(Rules(TWO, listed)).rules, tuple(wanted))
        check_same(self, left_out(Rules(MONTHS, [DAY_YEAR, DAY_MONTH, MONTH_YEAR])).rules, (DAY_MONTH, MONTH_YEAR))

    def test_of_two_that_follow_from_each_other_the_last_one_is_left_out(self):
        turned = ("orders", (("a", "down"),), (("b", "down"),))
        check_same(self, left_out(Rules(TWO, [SORTED, turned])).rules, (SORTED,))
        check_same(self, left_out(Rules(TWO, [turned, SORTED])).rules, (turned,))

    def test_what_is_left_out_is_not_counted_on(self):
        one, other = ("never", (("a", -1), ("b", 1))), ("never", (("a", 1), ("b", -1)))
        third = ("orders", (("coming", "up"),), (("coming", "up"),))
        check_same(self, left_out(Rules(THREE, [("never", (("a", -1),)), ("never", (("a", 1),))])).rules, (("never", (("a", -1),)),))
        check_same(self, left_out(Rules(TWO, [third, one, other])).rules, (one,))


if __name__ == "__main__":
    unittest.main()
