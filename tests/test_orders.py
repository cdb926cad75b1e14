"""[6]: orders."""

import re
import unittest
from itertools import permutations, product

from pairsigns.errors import InvalidCount, InvalidOrder, InvalidText
from pairsigns.rules import Rules
from pairsigns.signs import Order
from tests.samples import SIGNS, check_error, check_false, check_same, check_true, edits, odd_values

ENTRIES = (("a", "up"), ("r.b", "down"), ("coming", "up"), ("down", "down"))
TEXT = "a, r.b down, coming, down down"
GOOD_COLUMNS = ["a", "z", "abc", "a" * 17, "aaaaaaaa.aaaaaaaa", "r.a", "a.none", "none.a", "nonea", "non", "coming", "r.coming",
                "up", "down", "key", "never", "orders", "b.b", "a.abcdefghijklmno", "abcdefghijklmno.a"]
BAD_COLUMNS = ["", "none", "a" * 18, "aaaaaaaaa.aaaaaaaa", ".", ".a", "a.", "a..b", "a.b.c", "..", "A", "r.A", "R.a", "a1", "a b",
               " a", "a ", "a,", "a-b", "a_b", "a\n", "a.b\n", "`", "{", "a" * 200, "a down"]


def is_column(value):
    """Whether this can be the column of an entry, by a pattern instead of the program's way."""
    shaped = isinstance(value, str) and re.fullmatch(r"[a-z]+(\.[a-z]+)?", value) is not None
    return shaped and len(value) <= 17 and value != "none"


def is_order_text(text):
    """Whether this is the text of an order, by a pattern instead of the program's way."""
    if text == "none":
        return True
    parts = text.split(", ")
    if not all(re.fullmatch(r"[a-z]+(\.[a-z]+)?( down)?", part) for part in parts):
        return False
    columns = [part.split(" ")[0] for part in parts]
    return all(is_column(column) for column in columns) and len(set(columns)) == len(columns)


def all_orders(columns):
    """All tuples of entries with some of the columns."""
    return [tuple(zip(chosen, directions))
            for many in range(len(columns) + 1)
            for chosen in permutations(columns, many)
            for directions in product(("up", "down"), repeat=many)]


class MakingOrders(unittest.TestCase):
    def test_without_entries(self):
        for order in (Order(), Order(()), Order([]), Order(Order()), Order(entries=())):
            check_same(self, order.entries, ())
            check_same(self, order.columns, ())
            self.assertEqual(order, Order())

    def test_entries_and_columns(self):
        for order in (Order(ENTRIES), Order(list(ENTRIES)), Order(Order(ENTRIES)), Order(entries=ENTRIES)):
            check_same(self, order.entries, ENTRIES)
            check_same(self, order.columns, ("a", "r.b", "coming", "down"))

    def test_each_column_that_is_possible(self):
        for column in GOOD_COLUMNS:
            self.assertTrue(is_column(column), column)
            for direction in ("up", "down"):
                check_same(self, Order([(column, direction)]).entries, ((column, direction),))
        self.assertEqual(Order([(column, "up") for column in GOOD_COLUMNS]).columns, tuple(GOOD_COLUMNS))

    def test_each_column_that_is_not_possible(self):
        for column in BAD_COLUMNS:
            self.assertFalse(is_column(column), column)
            check_error(self, InvalidOrder, {"position": 0}, Order, [(column, "up")])
            check_error(self, InvalidOrder, {"position": 2}, Order, [("x", "up"), ("y", "down"), (column, "down"), ("x", "up")])

    def test_columns_of_every_kind(self):
        for value in odd_values():
            if is_column(value):
                self.assertEqual(Order([(value, "up")]).columns, (value,))
            else:
                check_error(self, InvalidOrder, {"position": 1}, Order, [("x", "up"), (value, "up")])

    def test_directions_of_every_kind(self):
        for value in odd_values() + ["UP", "u", "upp", "down ", " down", "downdown", ("up",), ["up"], -1]:
            if value not in ("up", "down"):
                check_error(self, InvalidOrder, {"position": 1}, Order, [("x", "up"), ("a", value)])

    def test_elements_of_every_kind(self):
        for value in odd_values() + [("a", "up", "up"), ("a",), ["a", "up"], "up", {"a": "up"}, (("a", "up"),)]:
            if type(value) is not tuple or value != ("a", "up"):
                check_error(self, InvalidOrder, {"position": 0}, Order, [value])
                check_error(self, InvalidOrder, {"position": 1}, Order, (("x", "down"), value))

    def test_entries_of_every_kind(self):
        for value in odd_values() + ["a", {("a", "up"): 1}, {("a", "up")}, (entry for entry in ENTRIES), Rules((("a", "text"),))]:
            if not isinstance(value, (list, tuple, Order)):
                check_error(self, InvalidOrder, {"position": -1}, Order, value)

    def test_a_single_entry_is_no_order(self):
        check_error(self, InvalidOrder, {"position": 0}, Order, ("a", "up"))

    def test_a_column_that_stands_twice(self):
        check_error(self, InvalidOrder, {"position": 1}, Order, [("a", "up"), ("a", "up")])
        check_error(self, InvalidOrder, {"position": 1}, Order, [("a", "up"), ("a", "down")])
        check_error(self, InvalidOrder, {"position": 3}, Order, [("a", "up"), ("r.a", "up"), ("b", "up"), ("r.a", "down")])

    def test_the_first_wrong_element_decides(self):
        check_error(self, InvalidOrder, {"position": 1}, Order, [("a", "up"), ("a", "up"), None])
        check_error(self, InvalidOrder, {"position": 1}, Order, [("a", "up"), None, ("a", "up")])
        check_error(self, InvalidOrder, {"position": 0}, Order, [("none", "up"), None, ("a", "up")])

    def test_many_entries(self):
        entries = [(one + other, "down") for one in "abcdefghijklmnopqrstuvwxyz" for other in "abcdefghijklmnopqrstuvwxyz"]
        self.assertEqual(Order(entries).entries, tuple(entries))
        check_error(self, InvalidOrder, {"position": 676}, Order, entries + [("aa", "up")])


class OrdersNeverChange(unittest.TestCase):
    def test_what_was_passed_is_copied_and_left_as_it_was(self):
        passed = [("a", "up"), ("b", "down")]
        order = Order(passed)
        self.assertEqual(passed, [("a", "up"), ("b", "down")])
        passed.append(("c", "up"))
        passed[0] = None
        self.assertEqual(order.entries, (("a", "up"), ("b", "down")))

    def test_properties_are_not_assigned(self):
        order = Order(ENTRIES)
        for name in ("entries", "columns"):
            with self.assertRaises(AttributeError):
                setattr(order, name, ())
        self.assertEqual(order.entries, ENTRIES)

    def test_methods_make_new_orders(self):
        order, other = Order(ENTRIES), Order([("x", "up")])
        signs = {"a": -1}
        for found in (order.begin(2), order.then(other), order.backwards(), Order(order)):
            self.assertIsInstance(found, Order)
            self.assertIsNot(found, order)
        order.sign(signs)
        self.assertEqual(order.entries, ENTRIES)
        self.assertEqual(other.entries, (("x", "up"),))
        self.assertEqual(signs, {"a": -1})


class MethodsOfOrders(unittest.TestCase):
    def test_begin(self):
        order = Order(ENTRIES)
        for count in range(5):
            check_same(self, order.begin(count).entries, ENTRIES[:count])
        for count in (5, 6, 100, 10 ** 30 - 1):
            check_same(self, order.begin(count).entries, ENTRIES)
        check_same(self, order.begin(count=1).entries, ENTRIES[:1])
        check_same(self, Order().begin(0).entries, ())
        check_same(self, Order().begin(3).entries, ())

    def test_begin_refuses_what_is_no_count(self):
        for value in odd_values():
            if type(value) is not int or value < 0:
                check_error(self, InvalidCount, {"value": value}, Order(ENTRIES).begin, value)
                check_error(self, InvalidCount, {"value": value}, Order().begin, value)

    def test_then(self):
        order = Order([("a", "up"), ("b", "down")])
        check_same(self, order.then([("b", "up"), ("c", "down"), ("a", "down"), ("d", "up")]).entries,
                   (("a", "up"), ("b", "down"), ("c", "down"), ("d", "up")))
        check_same(self, order.then(other=Order([("c", "up")])).entries, (("a", "up"), ("b", "down"), ("c", "up")))
        check_same(self, order.then((("c", "up"),)).entries, (("a", "up"), ("b", "down"), ("c", "up")))
        check_same(self, order.then(()).entries, order.entries)
        check_same(self, order.then(order.backwards()).entries, order.entries)
        check_same(self, Order().then(order).entries, order.entries)

    def test_then_for_all_orders_of_two_columns(self):
        orders = all_orders(("a", "r.b"))
        for one in orders:
            for other in orders:
                mine = [column for column, _ in one]
                wanted = list(one) + [entry for entry in other if entry[0] not in mine]
                check_same(self, Order(one).then(other).entries, tuple(wanted))

    def test_then_refuses_as_order_does(self):
        for value in odd_values():
            if not isinstance(value, (list, tuple, Order)):
                check_error(self, InvalidOrder, {"position": -1}, Order(ENTRIES).then, value)
        check_error(self, InvalidOrder, {"position": 1}, Order(ENTRIES).then, [("a", "up"), ("a", "up")])
        check_error(self, InvalidOrder, {"position": 0}, Order(ENTRIES).then, [["x", "up"]])

    def test_backwards(self):
        check_same(self, Order(ENTRIES).backwards().entries, (("a", "down"), ("r.b", "up"), ("coming", "down"), ("down", "up")))
        check_same(self, Order().backwards().entries, ())
        for entries in all_orders(("a", "b")):
            self.assertEqual(Order(entries).backwards().backwards(), Order(entries))
            self.assertEqual(Order(entries).backwards().columns, Order(entries).columns)

    def test_sign(self):
        order = Order([("a", "up"), ("r.b", "down"), ("c", "up")])
        for a, b, c in product(SIGNS, repeat=3):
            wanted = a if a != 0 else -b if b != 0 else c
            check_same(self, order.sign({"a": a, "r.b": b, "c": c}), wanted)
            check_same(self, order.sign(signs={"x": 1, "c": c, "r.b": b, "a": a, "b": -1}), wanted)
            check_same(self, order.backwards().sign({"a": a, "r.b": b, "c": c}), -wanted)

    def test_columns_without_a_sign_are_alike(self):
        order = Order([("a", "up"), ("b", "down"), ("c", "up")])
        check_same(self, order.sign({}), 0)
        check_same(self, order.sign({"x": 1}), 0)
        check_same(self, order.sign({"c": -1}), -1)
        check_same(self, order.sign({"c": -1, "b": -1}), 1)
        check_same(self, order.sign({"b": 1}), -1)
        check_same(self, Order().sign({"a": 1}), 0)

    def test_len(self):
        for count in range(5):
            self.assertEqual(len(Order(ENTRIES[:count])), count)

    def test_in(self):
        order = Order(ENTRIES)
        for column in ("a", "r.b", "coming", "down"):
            check_true(self, column in order)
        for column in ("b", "r", "r.a", "up", "", "none", "comin", "a, r.b", "r.b down"):
            check_false(self, column in order)
        check_false(self, "a" in Order())

    def test_in_takes_any_value(self):
        for value in odd_values() + [("a", "up"), ["a"], ("a",)]:
            found = value in Order([("a", "up"), ("down", "down")])
            check_same(self, found, isinstance(value, str) and value in ("a", "down"))
            check_false(self, value in Order())


class EqualOrders(unittest.TestCase):
    def test_equal_if_the_entries_are(self):
        orders = all_orders(("a", "b"))
        for one in orders:
            for other in orders:
                check_same(self, Order(one) == Order(list(other)), one == other)
                check_same(self, Order(one) != Order(list(other)), one != other)

    def test_not_equal_to_values_of_other_kinds(self):
        for order in (Order(), Order([("a", "up")])):
            for value in odd_values() + [order.entries, list(order.entries), str(order), repr(order), len(order)]:
                if not isinstance(value, Order):
                    check_false(self, order == value)
                    check_true(self, order != value)
                    check_false(self, value == order)

    def test_not_equal_to_what_calls_itself_equal_to_everything(self):
        class Everything:
            def __eq__(self, other):
                return True
        check_false(self, Order() == Everything())


class TextsOfOrders(unittest.TestCase):
    def test_str(self):
        check_same(self, str(Order()), "none")
        check_same(self, str(Order([("a", "up")])), "a")
        check_same(self, str(Order([("a", "down")])), "a down")
        check_same(self, str(Order([("down", "up")])), "down")
        check_same(self, str(Order(ENTRIES)), TEXT)

    def test_repr(self):
        check_same(self, repr(Order()), "Order(())")
        check_same(self, repr(Order([("a", "up")])), "Order((('a', 'up'),))")
        check_same(self, repr(Order([("r.a", "down"), ("b", "up")])), "Order((('r.a', 'down'), ('b', 'up')))")

    def test_from_text(self):
        check_same(self, Order.from_text("none").entries, ())
        check_same(self, Order.from_text(TEXT).entries, ENTRIES)
        check_same(self, Order.from_text(text="down").entries, (("down", "up"),))
        check_same(self, Order.from_text("up down").entries, (("up", "down"),))
        self.assertIs(type(Order.from_text("a")), Order)
        self.assertEqual(Order(ENTRIES).from_text("a"), Order([("a", "up")]))

    def test_text_and_back(self):
        for entries in all_orders(("a", "r.b", "down")) + [((column, "down"),) for column in GOOD_COLUMNS]:
            order = Order(entries)
            self.assertEqual(Order.from_text(str(order)), order)
            self.assertTrue(is_order_text(str(order)))

    def test_one_character_more_less_or_another_one(self):
        for text in ("none", "a", "a down", "a, b", "r.a down, b", "a, b, r.c down", "a" * 17, "down, a down"):
            for edited in edits(text, "abn.,, down-A1\n"):
                self.check_text(edited)

    def check_text(self, text):
        if is_order_text(text):
            self.assertEqual(str(Order.from_text(text)), text)
        else:
            check_error(self, InvalidText, {"value": text}, Order.from_text, text)

    def test_what_is_no_text_of_an_order(self):
        for text in ("", " ", ",", ", ", "a,b", "a ,b", "a,  b", "a, ", ", a", "a up", "a down down", "a  down", " down", "down, down",
                     "none down", "none, a", "a, none", "a, a", "a, b, a down", "a; b", "A", "a\n", "a downx", "adown b", "()",
                     "Order(())", "a" * 18, "a.b.c", "a., b", ".", "a. down"):
            self.assertFalse(is_order_text(text), text)
            check_error(self, InvalidText, {"value": text}, Order.from_text, text)

    def test_values_of_every_kind_are_no_texts(self):
        for value in odd_values():
            if not isinstance(value, str) or not is_order_text(value):
                check_error(self, InvalidText, {"value": value}, Order.from_text, value)


if __name__ == "__main__":
    unittest.main()
