"""[5]: values, signs and vectors."""

import random
import unittest

from pairsigns.errors import InvalidText, InvalidValue, InvalidVector, Unlike
from pairsigns.signs import read_vector, sign_of, turned, vector_text
from tests.samples import BIG, check_error, check_same, edits, odd_values, vectors_of_length

NUMBERS = [-BIG, -BIG + 1, -10 ** 29, -1000, -13, -2, -1, 0, 1, 2, 10, 99, 100, 2 ** 53, 2 ** 53 + 1, 10 ** 29, BIG - 1, BIG]
TEXTS = ["", "a", "aa", "ab", "abcdefghijk", "abcdefghijkl", "abcdefghijkm", "b", "ba", "m", "mzzzzzzzzzzz", "n", "z", "zy",
         "zzzzzzzzzzz", "zzzzzzzzzzzz"]


def is_text(value):
    return isinstance(value, str) and len(value) <= 12 and all("a" <= letter <= "z" for letter in value)


def is_value(value):
    return type(value) is int or is_text(value)


def no_values():
    return [value for value in odd_values() if not is_value(value)]


def is_vector(value):
    return type(value) is tuple and all(type(sign) is int and sign in (-1, 0, 1) for sign in value)


class SignsOfValues(unittest.TestCase):
    def test_values_that_are_listed_in_ascending_order(self):
        for values in (NUMBERS, TEXTS):
            self.assertEqual(values, sorted(values))
            for at, one in enumerate(values):
                for position, other in enumerate(values):
                    wanted = -1 if at < position else 1 if at > position else 0
                    check_same(self, sign_of(one, other), wanted)

    def test_numbers_are_compared_as_numbers(self):
        check_same(self, sign_of(9, 10), -1)
        check_same(self, sign_of(-9, -10), 1)

    def test_random_numbers_of_up_to_thirty_digits(self):
        dice = random.Random(5)
        for _ in range(300):
            one = dice.randint(-10 ** dice.randint(1, 30) + 1, 10 ** dice.randint(1, 30) - 1)
            step = dice.randint(1, 10 ** dice.randint(0, 5))
            self.assertEqual([sign_of(one, one + step), sign_of(one + step, one), sign_of(one, one)], [-1, 1, 0])

    def test_by_names(self):
        check_same(self, sign_of(other=2, one=1), -1)

    def test_what_is_no_value_is_named(self):
        for wrong in no_values():
            check_error(self, InvalidValue, {"value": wrong}, sign_of, wrong, 1)
            check_error(self, InvalidValue, {"value": wrong}, sign_of, 1, wrong)
            check_error(self, InvalidValue, {"value": wrong}, sign_of, "a", wrong)
            check_error(self, InvalidValue, {"value": wrong}, sign_of, wrong, "")

    def test_the_first_one_that_is_no_value_is_named(self):
        check_error(self, InvalidValue, {"value": None}, sign_of, None, True)
        check_error(self, InvalidValue, {"value": True}, sign_of, True, None)
        check_error(self, InvalidValue, {"value": "A"}, sign_of, "A", "B")

    def test_texts_that_are_too_long_or_have_other_characters(self):
        for wrong in ("abcdefghijklm", "a" * 13, "a" * 100, "A", "aB", "a ", " a", "a.b", "a1", "1", "-", "a\n", "\n", "`", "{"):
            check_error(self, InvalidValue, {"value": wrong}, sign_of, wrong, "a")
            check_error(self, InvalidValue, {"value": wrong}, sign_of, "a", wrong)

    def test_two_kinds(self):
        for number in NUMBERS:
            for text in TEXTS:
                check_error(self, Unlike, {}, sign_of, number, text)
                check_error(self, Unlike, {}, sign_of, text, number)


class Vectors(unittest.TestCase):
    def test_turned(self):
        check_same(self, turned(()), ())
        check_same(self, turned((0,)), (0,))
        check_same(self, turned((-1, 0, 1, 1)), (1, 0, -1, -1))
        check_same(self, turned(vector=(1,)), (-1,))

    def test_turned_for_all_short_vectors(self):
        for length in range(5):
            for vector in vectors_of_length(length):
                found = turned(vector)
                self.assertEqual([one + other for one, other in zip(vector, found, strict=True)], [0] * length)
                check_same(self, turned(found), vector)

    def test_text(self):
        check_same(self, vector_text(()), "")
        check_same(self, vector_text((-1, 0, 1)), "-0+")
        check_same(self, vector_text(vector=(1, 1, 0, -1)), "++0-")

    def test_text_and_back_for_all_short_vectors(self):
        for length in range(5):
            for vector in vectors_of_length(length):
                text = vector_text(vector)
                self.assertEqual([{"-": -1, "0": 0, "+": 1}[letter] for letter in text], list(vector))
                check_same(self, read_vector(text), vector)

    def test_a_long_vector(self):
        vector = (-1, 0, 1, 1) * 250
        check_same(self, vector_text(vector), "-0++" * 250)
        check_same(self, read_vector("-0++" * 250), vector)
        check_same(self, turned(vector), (1, 0, -1, -1) * 250)

    def test_read(self):
        check_same(self, read_vector(""), ())
        check_same(self, read_vector(text="+-0"), (1, -1, 0))

    def test_what_is_no_vector(self):
        seen = 0
        for value in odd_values():
            if not is_vector(value):
                seen += 1
                check_error(self, InvalidVector, {"value": value}, turned, value)
                check_error(self, InvalidVector, {"value": value}, vector_text, value)
        self.assertGreater(seen, 50)

    def test_what_is_no_sign_inside_a_vector(self):
        for wrong in [value for value in odd_values() if not is_vector((value,))]:
            for vector in ((wrong,), (0, wrong), (wrong, 1), (1, -1, wrong, 0)):
                check_error(self, InvalidVector, {"value": vector}, turned, vector)
                check_error(self, InvalidVector, {"value": vector}, vector_text, vector)

    def test_a_list_is_no_vector(self):
        for vector in ([], [0], [-1, 1]):
            check_error(self, InvalidVector, {"value": vector}, turned, vector)
            check_error(self, InvalidVector, {"value": vector}, vector_text, vector)

    def test_what_is_no_text_of_a_vector(self):
        for value in odd_values():
            if not isinstance(value, str) or value.strip("-0+"):
                check_error(self, InvalidText, {"value": value}, read_vector, value)
        for text in edits("-0+", "12,. a\n_*/"):
            if text.strip("-0+"):
                check_error(self, InvalidText, {"value": text}, read_vector, text)
        for text in ("-1", "- 0", "-0+ ", "\n", "0\n", "-x+", "0a0"):
            check_error(self, InvalidText, {"value": text}, read_vector, text)


if __name__ == "__main__":
    unittest.main()
