"""[2] and the interface's introduction: names, arguments, kinds of values, and what stays as it was."""

import ast
import copy
import importlib
import inspect
import unittest
from pathlib import Path

from pairsigns.errors import InvalidOrder, InvalidRule, InvalidValue, InvalidVector
from pairsigns.rules import Rules, breaks, is_columns, is_rule, read_rule, rule_text
from pairsigns.signs import Order, read_vector, sign_of, turned, vector_text
from pairsigns.weakorders import pair_sign, signs_fit, weak_order_of, weak_orders
from tests.rule_samples import ONE, TWO
from tests.samples import check_error, check_same

PACKAGE = Path(__file__).resolve().parent.parent / "pairsigns"
FUNCTIONS = {
    "signs": {"sign_of": ["one", "other"], "turned": ["vector"], "vector_text": ["vector"], "read_vector": ["text"]},
    "weakorders": {"weak_orders": ["count", "most"], "weak_order_of": ["values"], "pair_sign": ["ranks", "first", "second"],
                   "signs_fit": ["one", "other", "both"]},
    "rules": {"is_columns": ["value"], "is_rule": ["columns", "value"], "breaks": ["columns", "rule", "vector"],
              "rule_text": ["rule"], "read_rule": ["columns", "text"]},
}
METHODS = {
    ("signs", "Order"): {"__init__": ["entries"], "entries": [], "columns": [], "begin": ["count"], "then": ["other"],
                         "backwards": [], "sign": ["signs"], "from_text": ["text"], "__len__": [], "__contains__": ["column"],
                         "__eq__": ["other"], "__str__": [], "__repr__": []},
    ("rules", "Rules"): {"__init__": ["columns", "rules"], "columns": [], "rules": [], "names": [], "lets": ["vector"],
                         "first_broken": ["vector"], "vectors": [], "with_rule": ["rule"], "without": ["rule"], "__len__": [],
                         "__contains__": ["rule"], "__eq__": ["other"]},
}


def body_of(file):
    return ast.parse((PACKAGE / f"{file}.py").read_text(encoding="utf-8")).body


def arguments_of(function):
    return [argument.arg for argument in function.args.args]


class Interface(unittest.TestCase):
    def test_functions_are_defined_in_their_files(self):
        for file, functions in FUNCTIONS.items():
            defined = {part.name: arguments_of(part) for part in body_of(file) if isinstance(part, ast.FunctionDef)}
            for name, arguments in functions.items():
                self.assertEqual(defined.get(name), arguments, name)

    def test_methods_are_defined_in_their_classes(self):
        for (file, name), methods in METHODS.items():
            found = [part for part in body_of(file) if isinstance(part, ast.ClassDef) and part.name == name]
            self.assertEqual(len(found), 1)
            defined = {part.name: arguments_of(part)[1:] for part in found[0].body if isinstance(part, ast.FunctionDef)}
            for method, arguments in methods.items():
                self.assertEqual(defined.get(method), arguments, method)

    def test_functions_are_of_their_modules(self):
        for file, functions in FUNCTIONS.items():
            module = importlib.import_module(f"pairsigns.{file}")
            for name in functions:
                self.assertEqual(getattr(module, name).__module__, f"pairsigns.{file}")

    def test_defaults(self):
        self.assertEqual(inspect.signature(Order).parameters["entries"].default, ())
        self.assertEqual(inspect.signature(Rules).parameters["rules"].default, ())
        self.assertIs(inspect.signature(weak_orders).parameters["most"].default, None)

    def test_kinds_of_methods(self):
        for owner, names in ((Order, ("entries", "columns")), (Rules, ("columns", "rules"))):
            for name in names:
                self.assertIsInstance(vars(owner)[name], property)
        self.assertIsInstance(vars(Order)["from_text"], classmethod)
        self.assertTrue(inspect.isgeneratorfunction(weak_orders))


class ByName(unittest.TestCase):
    """Each function and method gives the same by position and by the names in the interface."""

    def test_functions(self):
        for function, arguments in (
                (sign_of, {"one": 1, "other": 2}), (turned, {"vector": (1, 0)}), (vector_text, {"vector": (1, 0)}),
                (read_vector, {"text": "+0"}), (weak_order_of, {"values": [3, 1]}), (signs_fit, {"one": 1, "other": 0, "both": 1}),
                (pair_sign, {"ranks": (0, 1), "first": 1, "second": 0}), (is_columns, {"value": ONE}), (rule_text, {"rule": ("key", ())}),
                (is_rule, {"columns": ONE, "value": ("key", ())}), (read_rule, {"columns": ONE, "text": "key a"}),
                (breaks, {"columns": ONE, "rule": ("key", ("a",)), "vector": (0, 1)})):
            self.check_call(function, arguments)

    def test_methods(self):
        order, rules = Order([("a", "up"), ("b", "down")]), Rules(TWO, [("key", ("a",))])
        for method, arguments in (
                (order.begin, {"count": 1}), (order.then, {"other": [("c", "up")]}), (order.sign, {"signs": {"a": 1}}),
                (Order.from_text, {"text": "a down"}), (rules.lets, {"vector": (0, 0, 1)}), (rules.without, {"rule": ("key", ("a",))}),
                (rules.first_broken, {"vector": (0, 0, 1)}), (rules.with_rule, {"rule": ("key", ("b",))}),
                (Order, {"entries": [("a", "up")]}), (Rules, {"columns": ONE, "rules": [("key", ())]})):
            self.check_call(method, arguments)

    def test_generators(self):
        check_same(self, list(weak_orders(count=2, most=1)), list(weak_orders(2, 1)))

    def check_call(self, call, arguments):
        """By position, by name, in the other sequence; and twice the same; and the arguments stay as they were."""
        before = copy.deepcopy(arguments)
        found = call(*arguments.values())
        for again in (call(**arguments), call(**dict(reversed(list(arguments.items())))), call(*arguments.values())):
            self.assertEqual(again, found)
            self.assertIs(type(again), type(found))
        self.assertEqual(repr(arguments), repr(before))


class TrueIsNotOne(unittest.TestCase):
    def test_values_and_vectors(self):
        for wrong in (True, False):
            check_error(self, InvalidValue, {"value": wrong}, sign_of, wrong, 1)
            check_error(self, InvalidValue, {"value": wrong}, sign_of, 0, wrong)
            check_error(self, InvalidValue, {"value": wrong}, weak_order_of, [0, 1, wrong])
            check_error(self, InvalidVector, {"value": (1, wrong)}, turned, (1, wrong))
            check_error(self, InvalidVector, {"value": (wrong,)}, vector_text, (wrong,))

    def test_signs_of_rules(self):
        for sign in (True, False):
            rule = ("never", (("a", sign),))
            self.assertIs(is_rule(ONE, rule), False)
            check_error(self, InvalidRule, {"position": -1}, rule_text, rule)
            check_error(self, InvalidRule, {"position": -1}, breaks, ONE, rule, (0, 1))
            check_error(self, InvalidRule, {"position": 0}, Rules, ONE, [rule])
            check_error(self, InvalidVector, {"value": (sign, 1)}, breaks, ONE, ("key", ()), (sign, 1))
            check_error(self, InvalidVector, {"value": (0, sign)}, Rules(ONE).lets, (0, sign))

    def test_signs_are_returned_as_integers(self):
        for sign in (*turned((1, 0, -1)), sign_of(1, 2), sign_of("b", "a"), sign_of(0, 0), pair_sign((0, 1), 1, 0),
                     Order([("a", "down")]).sign({"a": 1}), Order().sign({}), *read_vector("-0+"), *weak_order_of([5, 7])):
            self.assertIs(type(sign), int)


class ListsAndTuples(unittest.TestCase):
    def test_where_a_list_is_asked_for_a_tuple_is_accepted(self):
        entries, rules, values = [("a", "up")], [("key", ("a",))], [2, 1]
        self.assertEqual(Order(tuple(entries)), Order(entries))
        self.assertEqual(Order().then(tuple(entries)), Order().then(entries))
        self.assertEqual(Rules(ONE, tuple(rules)), Rules(ONE, rules))
        self.assertEqual(weak_order_of(tuple(values)), weak_order_of(values))

    def test_where_a_tuple_is_asked_for_a_list_is_not_accepted(self):
        check_error(self, InvalidVector, {"value": [0, 1]}, turned, [0, 1])
        check_error(self, InvalidVector, {"value": [0, 1]}, vector_text, [0, 1])
        check_error(self, InvalidVector, {"value": [0, 1]}, breaks, ONE, ("key", ()), [0, 1])
        check_error(self, InvalidOrder, {"position": 0}, Order, [["a", "up"]])
        check_error(self, InvalidRule, {"position": 0}, Rules, ONE, [["key", ("a",)]])
        self.assertIs(is_columns([("a", "number")]), False)

    def test_kinds_of_what_is_returned(self):
        rules = Rules(ONE, [("key", ("a",))])
        for found, kind in ((rules.vectors(), list), (rules.rules, tuple), (rules.columns, tuple), (rules.names(), tuple),
                            (Order([("a", "up")]).entries, tuple), (Order([("a", "up")]).columns, tuple), (turned((1,)), tuple),
                            (weak_order_of([1]), tuple), (read_vector("0"), tuple), (read_rule(ONE, "key a"), tuple)):
            self.assertIs(type(found), kind)
            for part in found:
                self.assertIn(type(part), (tuple, str, int))


if __name__ == "__main__":
    unittest.main()
