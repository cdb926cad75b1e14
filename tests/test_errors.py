"""[2] and errors.py: each error class by itself."""

import unittest

from pairsigns import errors

NAMES = {
    "PairError": (ValueError, None),
    "InvalidValue": (errors.PairError, ("value",)),
    "InvalidVector": (errors.PairError, ("value",)),
    "InvalidOrder": (errors.PairError, ("position",)),
    "InvalidCount": (errors.PairError, ("value",)),
    "InvalidName": (errors.PairError, ("value",)),
    "InvalidColumns": (errors.PairError, ("position",)),
    "InvalidRule": (errors.PairError, ("position",)),
    "InvalidTable": (errors.PairError, ("position",)),
    "InvalidRow": (errors.PairError, ("position",)),
    "InvalidQuery": (errors.PairError, ("part", "position")),
    "InvalidPlan": (errors.PairError, ("path",)),
    "InvalidQuestion": (errors.PairError, ()),
    "InvalidOffer": (errors.PairError, ("position",)),
    "InvalidWrite": (errors.PairError, ("position",)),
    "InvalidText": (errors.PairError, ("value",)),
    "InvalidToken": (errors.PairError, ("value",)),
    "InvalidCommand": (errors.PairError, ("value",)),
    "UnknownTable": (LookupError, ("value",)),
    "UnknownPlace": (LookupError, ("value",)),
    "UnknownName": (LookupError, ("value",)),
    "NameTaken": (RuntimeError, ("value",)),
    "RuleBroken": (RuntimeError, ("table", "place", "rule")),
    "PairBroken": (RuntimeError, ("table", "one", "other", "rule")),
    "Unlike": (RuntimeError, ()),
    "OutOfOrder": (RuntimeError, ("path",)),
    "Apart": (RuntimeError, ("path",)),
    "NotServing": (RuntimeError, ()),
    "InUse": (RuntimeError, ()),
    "TooMany": (ArithmeticError, ("kind", "limit")),
}
WITH_ARGUMENTS = [(name, base, told) for name, (base, told) in NAMES.items() if told is not None]


def passed_for(told):
    """A different value of another kind for each attribute."""
    return [["some", {"thing": None}], ("a", 1), 7, True][:len(told)]


class ErrorClasses(unittest.TestCase):
    def test_there_are_just_the_classes_of_the_interface(self):
        own = [name for name, value in vars(errors).items() if isinstance(value, type)]
        self.assertEqual(sorted(own), sorted(NAMES))
        for name in own:
            self.assertEqual(getattr(errors, name).__module__, "pairsigns.errors")

    def test_each_has_its_base_class_and_no_other(self):
        for name, (base, _) in NAMES.items():
            self.assertEqual(getattr(errors, name).__bases__, (base,), name)

    def test_no_other_subclass_relation(self):
        builtin = [ValueError, LookupError, KeyError, IndexError, RuntimeError, ArithmeticError, TypeError, OverflowError,
                   ZeroDivisionError, NotImplementedError, RecursionError, AttributeError]
        for name, (base, _) in NAMES.items():
            above = {base, *base.__bases__} - {Exception}
            for other in builtin + [getattr(errors, other) for other in NAMES if other != name]:
                self.assertEqual(issubclass(getattr(errors, name), other), other in above, (name, other))

    def test_attributes_by_position(self):
        for name, _, told in WITH_ARGUMENTS:
            passed = passed_for(told)
            error = getattr(errors, name)(*passed)
            self.assertEqual(list(vars(error)), list(told), name)
            for attribute, value in zip(told, passed):
                self.assertIs(getattr(error, attribute), value, name)

    def test_attributes_by_name_in_any_sequence(self):
        for name, _, told in WITH_ARGUMENTS:
            passed = dict(reversed(list(zip(told, passed_for(told)))))
            error = getattr(errors, name)(**passed)
            for attribute in told:
                self.assertIs(getattr(error, attribute), passed[attribute], name)

    def test_another_number_of_arguments_is_refused(self):
        for name, _, told in WITH_ARGUMENTS:
            with self.assertRaises(TypeError, msg=name):
                getattr(errors, name)(*passed_for(told), 0)
            if told:
                with self.assertRaises(TypeError, msg=name):
                    getattr(errors, name)(*passed_for(told)[1:])

    def test_each_is_raised_and_caught_by_its_class_and_its_base(self):
        for name, base, told in WITH_ARGUMENTS:
            for caught in (getattr(errors, name), base):
                with self.assertRaises(caught):
                    raise getattr(errors, name)(*passed_for(told))

    def test_errors_are_equal_only_to_themselves(self):
        for name, _, told in WITH_ARGUMENTS:
            made = getattr(errors, name)
            self.assertNotEqual(made(*passed_for(told)), made(*passed_for(told)))

    def test_pair_error_is_itself_an_error(self):
        with self.assertRaises(ValueError):
            raise errors.PairError()


if __name__ == "__main__":
    unittest.main()
