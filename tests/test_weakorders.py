"""[7]: weak orders."""

import unittest
from itertools import product

from pairsigns.errors import InvalidCount, InvalidValue, Unlike
from pairsigns.weakorders import pair_sign, signs_fit, weak_order_of, weak_orders
from tests.samples import BIG, SIGNS, check_error, check_false, check_same, check_true, odd_values

THREE = [(0, 0, 0), (0, 0, 1), (0, 1, 0), (0, 1, 1), (0, 1, 2), (0, 2, 1), (1, 0, 0), (1, 0, 1), (1, 0, 2), (1, 1, 0), (1, 2, 0),
         (2, 0, 1), (2, 1, 0)]


def by_definition(count, most):
    """The weak orders, found by asking the definition of every tuple of ranks."""
    found = []
    for ranks in product(range(4), repeat=count):
        below = all(rank in ranks for rank in range(max(ranks, default=0)))
        if below and (most is None or len(set(ranks)) <= most):
            found.append(ranks)
    return sorted(found)


def first_of(*args, **keywords):
    return next(weak_orders(*args, **keywords))


def is_possible_count(value):
    return type(value) is int and 0 <= value <= 4


def is_count_or_none(value):
    return value is None or (type(value) is int and value >= 0)


class YieldedWeakOrders(unittest.TestCase):
    def test_few_things(self):
        check_same(self, list(weak_orders(0)), [()])
        check_same(self, list(weak_orders(1)), [(0,)])
        check_same(self, list(weak_orders(2)), [(0, 0), (0, 1), (1, 0)])
        check_same(self, list(weak_orders(3)), THREE)

    def test_the_counts_that_the_document_names(self):
        self.assertEqual([len(list(weak_orders(count))) for count in (1, 2, 3, 4)], [1, 3, 13, 75])

    def test_against_the_definition(self):
        for count in range(5):
            for most in (None, 0, 1, 2, 3, 4, 5, 100, BIG):
                check_same(self, list(weak_orders(count, most)), by_definition(count, most))

    def test_most(self):
        check_same(self, list(weak_orders(0, 0)), [()])
        check_same(self, list(weak_orders(3, 0)), [])
        check_same(self, list(weak_orders(3, 1)), [(0, 0, 0)])
        check_same(self, list(weak_orders(count=2, most=1)), [(0, 0)])
        check_same(self, list(weak_orders(most=None, count=2)), [(0, 0), (0, 1), (1, 0)])
        self.assertEqual([len(list(weak_orders(4, most))) for most in range(6)], [0, 1, 15, 51, 75, 75])

    def test_each_is_yielded_one_by_one(self):
        found = weak_orders(2)
        self.assertIs(iter(found), found)
        self.assertEqual([next(found), next(found), next(found)], [(0, 0), (0, 1), (1, 0)])
        with self.assertRaises(StopIteration):
            next(found)

    def test_wrong_counts(self):
        for value in odd_values() + [5, 6, 100]:
            if not is_possible_count(value):
                check_error(self, InvalidCount, {"value": value}, first_of, value)
                check_error(self, InvalidCount, {"value": value}, first_of, value, 2)
                check_error(self, InvalidCount, {"value": value}, first_of, value, -1)

    def test_wrong_most(self):
        for value in odd_values():
            if not is_count_or_none(value):
                for count in range(5):
                    check_error(self, InvalidCount, {"value": value}, first_of, count, value)

    def test_the_first_error_is_that_of_count(self):
        check_error(self, InvalidCount, {"value": 5}, first_of, 5, True)
        check_error(self, InvalidCount, {"value": True}, first_of, True, -1)
        check_error(self, InvalidCount, {"value": None}, first_of, None, None)

    def test_errors_are_not_raised_before_the_first_element_is_asked_for(self):
        for arguments in ((5,), (True,), (None,), (3, -1), (3, "a")):
            found = weak_orders(*arguments)
            with self.assertRaises(InvalidCount):
                next(found)


class WeakOrdersOfValues(unittest.TestCase):
    def test_of_numbers(self):
        check_same(self, weak_order_of([]), ())
        check_same(self, weak_order_of([5]), (0,))
        check_same(self, weak_order_of([5, -3, 5, 10 ** 29]), (1, 0, 1, 2))
        check_same(self, weak_order_of((0, -1, 1)), (1, 0, 2))
        check_same(self, weak_order_of([9, 10, -10, -9]), (2, 3, 0, 1))
        check_same(self, weak_order_of(values=[BIG, -BIG, BIG - 1]), (2, 0, 1))

    def test_of_texts(self):
        check_same(self, weak_order_of(["b", "", "ab", "b", "a"]), (3, 0, 2, 3, 1))
        check_same(self, weak_order_of(("z",)), (0,))

    def test_against_the_signs_of_all_pairs(self):
        for values in product((-7, 0, 3, 20), repeat=4):
            ranks = weak_order_of(list(values))
            self.assertIn(ranks, by_definition(4, None))
            for one in range(4):
                for other in range(4):
                    wanted = (values[one] > values[other]) - (values[one] < values[other])
                    check_same(self, pair_sign(ranks, one, other), wanted)

    def test_more_than_four_values(self):
        check_same(self, weak_order_of(list(range(1000))), tuple(range(1000)))
        check_same(self, weak_order_of([3] * 1000), (0,) * 1000)

    def test_the_list_stays_as_it_was(self):
        values = [3, 1, 2]
        weak_order_of(values)
        self.assertEqual(values, [3, 1, 2])

    def test_what_is_no_value(self):
        for wrong in (None, True, False, "A", "abcdefghijklm", "a b", b"a", [], [1], (), (1,), {}, object()):
            check_error(self, InvalidValue, {"value": wrong}, weak_order_of, [wrong])
            check_error(self, InvalidValue, {"value": wrong}, weak_order_of, [1, 2, wrong])
            check_error(self, InvalidValue, {"value": wrong}, weak_order_of, ("a", wrong, None))

    def test_what_is_no_value_comes_before_two_kinds(self):
        check_error(self, InvalidValue, {"value": None}, weak_order_of, [1, "a", None, True])
        check_error(self, InvalidValue, {"value": True}, weak_order_of, ["a", 1, True, None])

    def test_two_kinds(self):
        check_error(self, Unlike, {}, weak_order_of, [1, "a"])
        check_error(self, Unlike, {}, weak_order_of, ("", 0))
        check_error(self, Unlike, {}, weak_order_of, ["a", "b", "c", 3])


class SignsOfRanks(unittest.TestCase):
    def test_pair_sign(self):
        ranks = (1, 0, 1, 2)
        check_same(self, pair_sign(ranks, 0, 1), 1)
        check_same(self, pair_sign(ranks, 1, 0), -1)
        check_same(self, pair_sign(ranks, 0, 2), 0)
        check_same(self, pair_sign(ranks, 3, 3), 0)
        check_same(self, pair_sign(ranks=ranks, first=2, second=3), -1)

    def test_signs_fit_for_all_triples(self):
        fitting = {tuple((ranks[one] > ranks[other]) - (ranks[one] < ranks[other]) for one, other in ((0, 1), (1, 2), (0, 2)))
                   for ranks in THREE}
        self.assertEqual(len(fitting), 13)
        for signs in product(SIGNS, repeat=3):
            check_same(self, signs_fit(*signs), signs in fitting)
            check_same(self, signs_fit(one=signs[0], other=signs[1], both=signs[2]), signs in fitting)

    def test_some_triples(self):
        check_true(self, signs_fit(-1, 1, 0))
        check_true(self, signs_fit(0, 0, 0))
        check_false(self, signs_fit(-1, -1, 1))
        check_false(self, signs_fit(0, 0, 1))


if __name__ == "__main__":
    unittest.main()
