"""[9]: texts of rules."""

import unittest

from pairsigns.errors import InvalidColumns, InvalidRule, InvalidText
from pairsigns.rules import read_rule, rule_text
from tests.rule_samples import ALL_COLUMNS, BACK, FOUR, ONE, THREE, TWO, all_rules, names, some_rules, spoilt, text_of
from tests.samples import check_error, check_same, edits, odd_values

TEXTS = {
    "key": ("key", ()),
    "key a": ("key", ("a",)),
    "key a b": ("key", ("a", "b")),
    "-> a": ("determines", (), "a"),
    "a -> b": ("determines", ("a",), "b"),
    "a orders b": ("orders", (("a", "up"),), (("b", "up"),)),
    "a, b down orders coming down": ("orders", (("a", "up"), ("b", "down")), (("coming", "down"),)),
    "coming, b orders b, coming down, a": (
        "orders", (("coming", "up"), ("b", "up")), (("b", "up"), ("coming", "down"), ("a", "up"))),
    "never a-": ("never", (("a", -1),)),
    "never a- b+ coming-": ("never", (("a", -1), ("b", 1), ("coming", -1))),
    "never a0 b0": ("never", (("a", 0), ("b", 0))),
    "never coming+": ("never", (("coming", 1),)),
}
NO_TEXTS = (
    "", " ", "ke", "keys", "key ", " key", "key  a", "key a ", "key a  b", "key b a", "key a a", "key c", "key coming", "key, a",
    "key a, b", "Key a", "key a\n", "key -> a", "a", "a b", "->", "-> ", "->a", " -> a", "a->b", "a  -> b", "a ->  b", "a -> b ",
    "a -> a", "a b -> a", "a -> c", "a -> coming", "coming -> a", "a -> -> b", "a -> b b", "a -> b -> a", "a, b -> a", "orders",
    " orders ", "a orders ", " orders a", "a orders", "orders a", "none orders a", "a orders none", "a orders none down",
    "a  orders b", "a orders  b", "a orders b orders a", "a orders c", "a,b orders a", "a, a orders b", "a up orders b",
    "a down down orders b", "t.a orders b", "a Orders b", "a orders b,", "a orders b, ", "never", "never ", "never a", "never -",
    "never  a-", "never a- ", "never a-  b+", "never a-, b+", "never b+ a-", "never a- a-", "never a- a+", "never c-", "never a1",
    "never a--", "never -a", "never a -", "never coming0", "never coming- a-", "never a- coming0", "Never a-", "never a-b+", "nevera-",
)


class RuleTexts(unittest.TestCase):
    def test_by_hand(self):
        for text, rule in TEXTS.items():
            check_same(self, rule_text(rule), text)
            check_same(self, rule_text(rule=rule), text)
            check_same(self, read_rule(TWO, text), rule)
            check_same(self, read_rule(columns=TWO, text=text), rule)
        check_same(self, rule_text(("determines", ("d", "c"), "b")), "d c -> b")

    def test_all_rules_for_few_columns(self):
        for columns in (ONE, TWO, BACK):
            texts = {}
            for rule in all_rules(columns):
                text = rule_text(rule)
                check_same(self, text, text_of(rule))
                check_same(self, read_rule(columns, text), rule)
                texts[text] = rule
            self.assertEqual(len(texts), len(all_rules(columns)))

    def test_rules_for_more_columns(self):
        for columns in (THREE, FOUR):
            for rule in some_rules(columns):
                check_same(self, rule_text(rule), text_of(rule))
                check_same(self, read_rule(columns, text_of(rule)), rule)

    def test_sequence_is_that_of_some_columns(self):
        check_same(self, rule_text(("key", ("b", "a"))), "key b a")
        check_same(self, rule_text(("never", (("z", 0), ("b", -1), ("coming", 1)))), "never z0 b- coming+")
        check_same(self, rule_text(("orders", (("d", "up"), ("a", "up")), (("a", "up"), ("c", "up"), ("d", "up")))), "d, a orders a, c, d")


class NoRules(unittest.TestCase):
    def test_values_of_every_kind_have_no_text(self):
        for value in odd_values():
            if value != ("key", ("a",)) and value != ("key", ("z",)):
                check_error(self, InvalidRule, {"position": -1}, rule_text, value)

    def test_rules_for_no_columns_at_all(self):
        up = tuple((name, "up") for name in ("a", "b", "c", "d", "e"))
        for value in (
                ("key", ("a", "a")), ("key", ("a", "b", "c", "d", "e")), ("key", ("coming",)), ("key", ("abcdefghi",)),
                ("determines", ("a", "b", "c", "d"), "e"), ("determines", ("a",), "a"), ("determines", ("a", "b", "a"), "c"),
                ("orders", up, up[:1]), ("orders", up[:3], up[3:]), ("orders", up[:1], ()), ("orders", up[:4], up[4:]),
                ("orders", up[:4] + (("coming", "up"),), up[:1]), ("orders", up[:1], up[:4] + (("coming", "up"),)),
                ("orders", (("key", "up"),), up[:1]), ("orders", (("t.a", "up"),), up[:1]),
                ("never", tuple((name, 0) for name in ("a", "b", "c", "d", "e"))), ("never", (("a", 1), ("a", 1))),
                ("never", (("coming", 1), ("a", 1))), ("never", (("a", 1), ("coming", 0))), ("never", (("a", True),))):
            check_error(self, InvalidRule, {"position": -1}, rule_text, value)

    def test_with_as_many_columns_as_a_table_has(self):
        up = tuple((name, "up") for name in ("a", "b", "c", "d"))
        for value in (("key", ("a", "b", "c", "d")), ("determines", ("a", "b", "d"), "c"), ("orders", up, up[:1]),
                      ("orders", up[:2], up[2:]), ("orders", (("coming", "up"),), (("coming", "down"),)),
                      ("orders", up[:3] + (("coming", "up"),), up[3:]),
                      ("never", (("a", 0), ("b", 0), ("c", 0), ("d", 0), ("coming", 1)))):
            check_same(self, rule_text(value), text_of(value))

    def test_one_part_spoilt(self):
        allowed = {repr(rule) for columns in (ONE, TWO, BACK, (("b", "text"),)) for rule in all_rules(columns)}
        others = [None, True, False, 0, 1, 2, "", "a", "b", "coming", "key", "never", (), [], ("a",), ("a", 1), ("a", "up"), {}]
        for rule in TEXTS.values():
            for value in spoilt(rule, others):
                if repr(value) in allowed:
                    check_same(self, rule_text(value), text_of(value))
                else:
                    check_error(self, InvalidRule, {"position": -1}, rule_text, value)


class NoTexts(unittest.TestCase):
    def test_by_hand(self):
        for text in NO_TEXTS:
            check_error(self, InvalidText, {"value": text}, read_rule, TWO, text)

    def test_one_character_more_less_or_another_one(self):
        allowed = {text_of(rule): rule for rule in all_rules(TWO)}
        for text in TEXTS:
            for edited in edits(text, "abc ,-+0>kn\n"):
                if edited in allowed:
                    check_same(self, read_rule(TWO, edited), allowed[edited])
                else:
                    check_error(self, InvalidText, {"value": edited}, read_rule, TWO, edited)

    def test_texts_of_rules_for_other_columns(self):
        allowed = {text_of(rule) for rule in all_rules(ONE)}
        for rule in some_rules(TWO):
            text = text_of(rule)
            if text not in allowed:
                check_error(self, InvalidText, {"value": text}, read_rule, ONE, text)
        check_error(self, InvalidText, {"value": "key a b"}, read_rule, BACK, "key a b")
        check_error(self, InvalidText, {"value": "never a- b-"}, read_rule, BACK, "never a- b-")

    def test_orders_have_at_most_four_entries(self):
        five = ", ".join(names(FOUR) + ("coming",))
        for text in (f"{five} orders d", f"d orders {five}"):
            check_error(self, InvalidText, {"value": text}, read_rule, FOUR, text)
        self.assertEqual(len(read_rule(FOUR, f"d orders {', '.join(names(FOUR))}")[2]), 4)

    def test_values_of_every_kind(self):
        allowed = {text_of(rule) for rule in all_rules(ONE)}
        for value in odd_values():
            if not isinstance(value, str) or value not in allowed:
                check_error(self, InvalidText, {"value": value}, read_rule, ONE, value)

    def test_wrong_columns_come_first(self):
        for value in odd_values() + [list(ONE), (("key", "text"),)]:
            check_error(self, InvalidColumns, {"position": -1}, read_rule, value, "key")
            check_error(self, InvalidColumns, {"position": -1}, read_rule, value, None)

    def test_columns_of_all_samples_are_read(self):
        for columns in ALL_COLUMNS:
            check_same(self, read_rule(columns, "key"), ("key", ()))


if __name__ == "__main__":
    unittest.main()
