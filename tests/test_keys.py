"""[11]: keys, determined columns, and what three rows show."""

import random
import unittest
from itertools import combinations, permutations, product

from pairsigns.errors import InvalidName, TooMany
from pairsigns.judging import determined, least_keys, triples_of
from pairsigns.rules import Rules
from tests.rule_samples import ALL_COLUMNS, BACK, FOUR, ONE, THREE, TWO, names, parts_of, rows_break, rows_with, some_rules
from tests.samples import check_error, check_same, odd_values, row_vectors
from tests.test_weakorders import THREE as WEAK_ORDERS

KEY = ("key", ("a",))


def let_dicts(columns, rules):
    """The let vectors as dicts by name, found by rows."""
    things = names(columns) + ("coming",)
    return [dict(zip(things, vector)) for vector in row_vectors(len(columns))
            if not any(rows_break(rule, *rows_with(columns, vector)) for rule in rules)]


def some_cases(seed, many, columns=ALL_COLUMNS):
    dice = random.Random(seed)
    for listed in columns:
        possible = some_rules(listed)
        for _ in range(many):
            yield listed, dice.sample(possible, min(len(possible), dice.choice((0, 1, 1, 2, 2, 3, 4, 8))))


def keys_by_definition(columns, rules):
    let = let_dicts(columns, rules)
    keys = [part for part in parts_of(names(columns))
            if not any(all(signs[name] == 0 for name in part) for signs in let)]
    return sorted(key for key in keys if not any(set(other) < set(key) for other in keys))


class LeastKeys(unittest.TestCase):
    def test_against_the_definition(self):
        for columns, rules in some_cases(4, 25):
            check_same(self, least_keys(Rules(columns, rules)), keys_by_definition(columns, rules))

    def test_every_single_rule_for_two_columns(self):
        for rule in some_rules(TWO):
            check_same(self, least_keys(Rules(TWO, [rule])), keys_by_definition(TWO, [rule]))

    def test_by_hand(self):
        check_same(self, least_keys(Rules(TWO, [KEY])), [("a",)])
        check_same(self, least_keys(Rules(TWO, [("key", ("a", "b"))])), [("a", "b")])
        check_same(self, least_keys(Rules(TWO, [("key", ("b",)), KEY])), [("a",), ("b",)])
        check_same(self, least_keys(Rules(BACK, [("key", ("b", "a"))])), [("b", "a")])
        check_same(self, least_keys(Rules(TWO, [KEY, ("determines", ("b",), "a")])), [("a",), ("b",)])
        check_same(self, least_keys(Rules(THREE, [("key", ("x", "a")), ("key", ("m",))])), [("m",), ("x", "a")])
        check_same(self, least_keys(Rules(FOUR, [("key", ("d", "b")), ("key", ("c", "b")), ("key", ("c", "abcdefgh"))])),
                   [("c", "abcdefgh"), ("c", "b"), ("d", "b")])

    def test_no_key_at_all(self):
        for columns in ALL_COLUMNS:
            check_same(self, least_keys(Rules(columns)), [])
        check_same(self, least_keys(Rules(TWO, [("orders", (("a", "up"),), (("b", "up"),))])), [])

    def test_no_vector_is_let(self):
        for columns in ALL_COLUMNS:
            check_same(self, least_keys(Rules(columns, [("key", ())])), [()])
        check_same(self, least_keys(Rules(ONE, [("never", (("coming", 1),))])), [()])

    def test_returned_lists_are_new(self):
        rules = Rules(TWO, [KEY])
        least_keys(rules).clear()
        check_same(self, least_keys(rules), [("a",)])


class DeterminedColumns(unittest.TestCase):
    def test_against_the_definition(self):
        for columns, rules in some_cases(5, 12):
            let = let_dicts(columns, rules)
            for part in parts_of(names(columns)):
                alike = [signs for signs in let if all(signs[name] == 0 for name in part)]
                wanted = tuple(name for name in names(columns) if all(signs[name] == 0 for signs in alike))
                check_same(self, determined(Rules(columns, rules), list(part)), wanted)
                check_same(self, determined(Rules(columns, rules), part[::-1] + part), wanted)

    def test_by_hand(self):
        check_same(self, determined(Rules(TWO), []), ())
        check_same(self, determined(Rules(TWO), ["a"]), ("a",))
        check_same(self, determined(Rules(TWO, [("determines", ("a",), "b")]), ["a"]), ("a", "b"))
        check_same(self, determined(Rules(TWO, [("determines", ("a",), "b")]), ["b"]), ("b",))
        check_same(self, determined(Rules(TWO, [("determines", (), "b")]), ()), ("b",))
        check_same(self, determined(Rules(BACK, [KEY]), ("a",)), ("b", "a"))
        check_same(self, determined(Rules(THREE, [("orders", (("m", "up"),), (("x", "up"), ("a", "down")))]), ["m"]), ("x", "a", "m"))
        check_same(self, determined(Rules(FOUR, [("key", ())]), []), names(FOUR))

    def test_the_list_stays_as_it_was(self):
        passed = ["b", "a"]
        determined(Rules(TWO), passed)
        self.assertEqual(passed, ["b", "a"])

    def test_what_is_no_name_of_a_column(self):
        rules = Rules(TWO, [KEY])
        for value in odd_values() + ["coming", "c", "A", "a ", "ab", ("a",), ["a"], "r.a"]:
            if not isinstance(value, str) or value not in ("a", "b"):
                check_error(self, InvalidName, {"value": value}, determined, rules, [value])
                check_error(self, InvalidName, {"value": value}, determined, rules, ["a", "a", value, None])
                check_error(self, InvalidName, {"value": value}, determined, Rules(TWO, [("key", ())]), ("b", value))


def triples_by_definition(columns, rules, chosen):
    """The triples, found by trying weak orders for all columns and all sequences of places."""
    things = names(columns) + ("coming",)
    let = {tuple(signs.values()) for signs in let_dicts(columns, rules)}
    spots = [things.index(name) for name in chosen]
    found = set()
    for ranks in product(*[WEAK_ORDERS] * len(columns), list(permutations(range(3)))):
        if all(tuple((row[one] > row[other]) - (row[one] < row[other]) for row in ranks) in let
               for one, other in ((0, 1), (1, 2), (0, 2))):
            found.add(tuple(ranks[at] for at in spots))
    return sorted(found)


def choices_of_things(columns):
    """All tuples of at most three names of columns or coming, in any sequence."""
    things = names(columns) + ("coming",)
    return [chosen for many in range(4) for part in combinations(things, min(many, len(things))) for chosen in permutations(part)]


class Triples(unittest.TestCase):
    def test_against_the_definition(self):
        dice = random.Random(6)
        for columns, rules in some_cases(7, 8, (ONE, TWO, BACK)):
            for chosen in dice.sample(choices_of_things(columns), 4):
                check_same(self, triples_of(Rules(columns, rules), chosen), triples_by_definition(columns, rules, chosen))

    def test_more_columns_against_the_definition(self):
        dice = random.Random(8)
        for columns, many in ((THREE, 8), (FOUR, 1)):
            for _, rules in some_cases(9, many, (columns,)):
                chosen = dice.choice(choices_of_things(columns))
                check_same(self, triples_of(Rules(columns, rules), chosen), triples_by_definition(columns, rules, chosen))

    def test_without_rules(self):
        check_same(self, triples_of(Rules(ONE), ("a",)), [(ranks,) for ranks in WEAK_ORDERS])
        check_same(self, triples_of(Rules(FOUR), ("coming",)), [(ranks,) for ranks in permutations(range(3))])
        check_same(self, triples_of(Rules(FOUR), ("b", "d")), list(product(WEAK_ORDERS, WEAK_ORDERS)))
        self.assertEqual(len(triples_of(Rules(FOUR), ("b", "coming", "d"))), 13 * 6 * 13)

    def test_no_names(self):
        check_same(self, triples_of(Rules(TWO), ()), [()])
        check_same(self, triples_of(Rules(TWO, [KEY, ("never", (("a", 1), ("b", 0)))]), ()), [()])
        check_same(self, triples_of(Rules(TWO, [("key", ())]), ()), [])

    def test_no_vector_is_let(self):
        for chosen in choices_of_things(TWO):
            check_same(self, triples_of(Rules(TWO, [("key", ())]), chosen), [])

    def test_if_a_vector_is_let_there_are_triples(self):
        for columns, rules in some_cases(10, 10):
            found = triples_of(Rules(columns, rules), names(columns)[:3])
            self.assertEqual(found != [], let_dicts(columns, rules) != [])

    def test_by_hand(self):
        rising = Rules(ONE, [KEY, ("orders", (("coming", "up"),), (("a", "up"),))])
        sequences = list(permutations(range(3)))
        check_same(self, triples_of(rising, ("a", "coming")), [(ranks, ranks) for ranks in sequences])
        check_same(self, triples_of(rising, ("coming",)), [(ranks,) for ranks in sequences])
        alike = Rules(TWO, [("determines", (), "b")])
        check_same(self, triples_of(alike, ("b",)), [((0, 0, 0),)])
        check_same(self, triples_of(alike, ("b", "a")), [((0, 0, 0), ranks) for ranks in WEAK_ORDERS])

    def test_signs_that_are_let_but_do_not_come_from_three_rows(self):
        rules = Rules(TWO, [("never", (("a", -1), ("b", -1))), ("never", (("a", 0),)), ("never", (("b", 0),))])
        check_same(self, triples_of(rules, ("a", "b")), sorted((ranks, tuple(2 - rank for rank in ranks))
                                                               for ranks in permutations(range(3))))

    def test_what_holds_of_pairs_alone_is_not_enough(self):
        """Where rows are alike in a, their sequence by b is that of their places, so two pairs decide the third one."""
        rules = Rules(TWO, [("never", (("a", 0), ("b", 0))), ("never", (("a", 0), ("b", 1), ("coming", -1)))])
        found = triples_of(rules, ("a", "b", "coming"))
        self.assertIn(((0, 0, 0), (0, 1, 2), (0, 1, 2)), found)
        self.assertNotIn(((0, 0, 0), (0, 1, 2), (0, 2, 1)), found)
        self.assertEqual([b for a, b, coming in found if a == (0, 0, 0)], [coming for a, b, coming in found if a == (0, 0, 0)])

    def test_the_sequence_of_the_names(self):
        rules = Rules(TWO, [("orders", (("a", "up"),), (("b", "up"),))])
        found = triples_of(rules, ("a", "b"))
        self.assertIn(((0, 1, 2), (0, 0, 1)), found)
        self.assertNotIn(((0, 0, 1), (0, 1, 2)), found)
        check_same(self, triples_of(rules, ("b", "a")), sorted((b, a) for a, b in found))

    def test_wrong_names(self):
        for rules in (Rules(TWO), Rules(TWO, [("key", ())])):
            for value in odd_values() + ["c", "Coming", "a ", "r.a", ("a",), ["a"]]:
                if not isinstance(value, str) or value not in ("a", "b", "coming"):
                    check_error(self, InvalidName, {"value": value}, triples_of, rules, (value,))
                    check_error(self, InvalidName, {"value": value}, triples_of, rules, ("b", "coming", value, None))
            check_error(self, InvalidName, {"value": "a"}, triples_of, rules, ("a", "a"))
            check_error(self, InvalidName, {"value": "coming"}, triples_of, rules, ("coming", "a", "coming", "b"))
            check_error(self, InvalidName, {"value": "b"}, triples_of, rules, ("b", "a", "coming", "b", "c"))

    def test_too_many_names(self):
        check_error(self, TooMany, {"kind": "names", "limit": 3}, triples_of, Rules(THREE), ("x", "a", "m", "coming"))
        check_error(self, TooMany, {"kind": "names", "limit": 3}, triples_of, Rules(FOUR), (*names(FOUR), "coming"))
        check_error(self, InvalidName, {"value": "z"}, triples_of, Rules(FOUR), (*names(FOUR), "z"))
        check_error(self, InvalidName, {"value": "d"}, triples_of, Rules(FOUR), (*names(FOUR), "d"))

    def test_returned_lists_are_new(self):
        rules = Rules(ONE, [KEY])
        triples_of(rules, ("a",)).clear()
        self.assertEqual(len(triples_of(rules, ("a",))), 6)


if __name__ == "__main__":
    unittest.main()
