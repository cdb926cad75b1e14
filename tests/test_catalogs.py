"""[12]: catalogs, their tables, rules and indexes, and catalogs that are extended."""

import unittest

from pairsigns.errors import (InvalidName, InvalidOrder, InvalidTable, NameTaken, TooMany, UnknownName, UnknownTable, Unlike)
from pairsigns.rules import Rules
from pairsigns.signs import Order
from pairsigns.tables import Catalog
from tests.rule_samples import BACK, FOUR, ONE, THREE, TWO
from tests.samples import check_error, check_false, check_same, check_true, odd_values

KEY = ("key", ("a",))
BY = [("a", "up"), ("b", "down")]
NAMES = ("r", "s", "t", "abcdefgh")
ALL_COLUMNS = (TWO, ONE, BACK, FOUR)
BAD_NAMES = ("", "coming", "down", "up", "none", "key", "never", "orders", "abcdefghi", "A", "a b", "a.b", "a1", "a\n", "r ")


def tables():
    """The tables of a catalog with the most that is allowed, as they are passed."""
    return [("r", Rules(TWO, [KEY]), [("by", list(BY)), ("second", tuple(BY[1:])), ("third", Order(BY).backwards())]),
            ("s", Rules(ONE), []), ("t", Rules(BACK, [("key", ("b",))]), ()), ("abcdefgh", Rules(FOUR), [("by", [("c", "down")])])]


def sample():
    return Catalog(tables())


def wrong_tables():
    """Values that are no table of a catalog."""
    rules = Rules(TWO)
    return odd_values() + [
        ("r", rules), ("r", rules, [], []), ["r", rules, []], ("r", TWO, []), ("r", None, []), ("r", [KEY], []), ("r", rules, None),
        ("r", rules, {}), ("r", rules, "by"), ("r", rules, ("by", BY)), ("r", rules, [("by", BY, ())]), ("r", rules, [("by",)]),
        ("r", rules, [["by", BY]]), ("r", rules, [("by", BY), None]), ("r", rules, [("by", [])]), ("r", rules, [("by", Order())]),
        ("r", rules, [("by", None)]), ("r", rules, [("by", "a")]), ("r", rules, [("by", ("a", "up"))]),
        ("r", rules, [("by", [["a", "up"]])]),
        ("r", rules, [("by", [("c", "up")])]), ("r", rules, [("by", [("a", "up"), ("coming", "up")])]),
        ("r", rules, [("by", [("r.a", "up")])]),
        ("r", rules, [("by", [("a", "up"), ("a", "down")])]), ("r", rules, [("by", [("a", "upwards")])]),
        ("r", rules, [("by", BY), ("by", BY[:1])]), ("r", rules, [(name, BY) for name in ("ia", "ib", "ic", "id")]),
        ("r", Rules(FOUR), [("by", [(column, "up") for column, _ in FOUR])]),
    ] + [(name, rules, []) for name in BAD_NAMES] + [("r", rules, [(name, BY)]) for name in BAD_NAMES] + [
        (value, rules, []) for value in odd_values() if value not in NAMES + ("a", "b", "abc", "number")] + [
        ("r", rules, [(value, BY)]) for value in odd_values() if value not in NAMES + ("a", "b", "abc", "number")]


class MakingCatalogs(unittest.TestCase):
    def test_what_is_kept(self):
        for catalog in (Catalog(tables()), Catalog(tuple(tables())), Catalog(tables=tables())):
            check_same(self, catalog.tables, NAMES)
            self.assertEqual([catalog.rules_of(name) for name in NAMES], [rules for _, rules, _ in tables()])
            for name, _, indexes in tables():
                found = catalog.indexes_of(name)
                self.assertIs(type(found), list)
                self.assertEqual(found, [(index, Order(order)) for index, order in indexes])
                self.assertTrue(all(type(index) is tuple and type(index[1]) is Order for index in found))

    def test_one_table_with_one_column(self):
        catalog = Catalog([("a", Rules(ONE), [])])
        check_same(self, catalog.tables, ("a",))
        check_same(self, catalog.indexes_of("a"), [])
        self.assertEqual(catalog.rules_of(table="a"), Rules(ONE))

    def test_an_index_and_a_column_may_have_the_name_of_the_table(self):
        catalog = Catalog([("a", Rules(ONE), [("a", [("a", "up")])]), ("r", Rules(ONE), [("a", [("a", "down")])])])
        self.assertEqual(catalog.indexes_of("a"), [("a", Order([("a", "up")]))])
        self.assertEqual(catalog.indexes_of(table="r"), [("a", Order([("a", "down")]))])

    def test_orders_of_one_to_three_entries(self):
        entries = [("d", "up"), ("c", "down"), ("abcdefgh", "up")]
        for many in (1, 2, 3):
            catalog = Catalog([("r", Rules(FOUR), [("by", entries[:many])])])
            self.assertEqual(catalog.indexes_of("r")[0][1].entries, tuple(entries[:many]))

    def test_no_list_of_one_to_four_tables(self):
        five = tables() + [("z", Rules(ONE), [])]
        for value in odd_values() + [{"r": Rules(TWO)}, iter(tables()), "r", Rules(TWO), [], (), five, tuple(five), [None] * 5]:
            if not isinstance(value, (list, tuple)) or not 1 <= len(value) <= 4:
                check_error(self, InvalidTable, {"position": -1}, Catalog, value)

    def test_wrong_tables(self):
        good = tables()
        for value in wrong_tables():
            check_error(self, InvalidTable, {"position": 0}, Catalog, [value])
            check_error(self, InvalidTable, {"position": 2}, Catalog, (good[1], good[2], value, None))

    def test_a_table_is_no_list_of_tables(self):
        check_error(self, InvalidTable, {"position": 0}, Catalog, tables()[0])

    def test_a_name_that_stands_earlier(self):
        one, two = ("r", Rules(ONE), []), ("r", Rules(TWO), [])
        check_error(self, InvalidTable, {"position": 1}, Catalog, [one, two])
        check_error(self, InvalidTable, {"position": 2}, Catalog, [one, ("s", Rules(ONE), []), two, None])
        check_error(self, InvalidTable, {"position": 1}, Catalog, [one, None, two])


class AskingCatalogs(unittest.TestCase):
    def test_unknown_tables(self):
        catalog = sample()
        for value in odd_values() + ["R", "r ", "", "z", "r.a", ("r",), ["r"]]:
            for method in (catalog.rules_of, catalog.indexes_of):
                check_error(self, UnknownTable, {"value": value}, method, value)
            check_error(self, UnknownTable, {"value": value}, catalog.with_rules, value, Rules(ONE))
            check_error(self, UnknownTable, {"value": value}, catalog.with_index, value, "", None)

    def test_kinds(self):
        catalog = sample()
        for name, rules, _ in tables():
            for column, kind in rules.columns:
                check_same(self, catalog.kind_of(f"{name}.{column}"), kind)
        check_same(self, catalog.kind_of(reference="t.b"), "text")

    def test_what_is_no_reference(self):
        catalog = sample()
        wrong = ["r", "a", "r.", ".a", "r.c", "r.coming", "z.a", "s.b", "r.a.b", "r..a", "R.a", "r.a ", " r.a", "r,a", "ra", "r.by", "a.r",
                 ("r", "a"), ["r.a"], ("r.a",), "r.A", "r.a\n"]
        for value in odd_values() + wrong:
            check_error(self, UnknownName, {"value": value}, catalog.kind_of, value)


class CatalogsNeverChange(unittest.TestCase):
    def test_what_was_passed_is_copied(self):
        order, indexes = [("a", "up")], []
        indexes.append(("by", order))
        passed = [("r", Rules(TWO), indexes)]
        catalog = Catalog(passed)
        self.assertEqual(passed, [("r", Rules(TWO), [("by", [("a", "up")])])])
        order.append(("b", "up"))
        indexes.append(("bad", []))
        passed.clear()
        self.assertEqual(catalog, Catalog([("r", Rules(TWO), [("by", [("a", "up")])])]))

    def test_returned_lists_are_new(self):
        catalog = sample()
        found = catalog.indexes_of("r")
        self.assertIsNot(found, catalog.indexes_of("r"))
        found.clear()
        self.assertEqual(len(catalog.indexes_of("r")), 3)
        self.assertEqual(catalog, sample())

    def test_properties_are_not_assigned(self):
        catalog = sample()
        with self.assertRaises(AttributeError):
            catalog.tables = ()
        check_same(self, catalog.tables, NAMES)

    def test_methods_make_new_catalogs(self):
        catalog = sample()
        catalog.with_rules("r", Rules(TWO))
        catalog.with_index("s", "by", [("a", "up")])
        self.assertEqual(catalog, sample())


class ExtendedCatalogs(unittest.TestCase):
    def test_with_rules(self):
        catalog, rules = sample(), Rules(BACK, [("determines", (), "a")])
        for found in (catalog.with_rules("t", rules), catalog.with_rules(rules=rules, table="t")):
            self.assertIs(type(found), Catalog)
            self.assertEqual(found, Catalog([*tables()[:2], ("t", rules, []), tables()[3]]))
        self.assertEqual(catalog.with_rules("r", Rules(TWO)).indexes_of("r"), catalog.indexes_of("r"))

    def test_with_rules_for_other_columns(self):
        catalog = sample()
        for table, rules in (("r", Rules(BACK)), ("r", Rules(ONE)), ("t", Rules(TWO, [KEY])), ("s", Rules((("a", "text"),)))):
            check_error(self, Unlike, {}, catalog.with_rules, table, rules)

    def test_unknown_table_comes_before_other_columns(self):
        check_error(self, UnknownTable, {"value": "z"}, sample().with_rules, "z", Rules(THREE))

    def test_with_index(self):
        catalog = sample()
        for order in ([("a", "down")], (("a", "down"),), Order([("a", "down")])):
            for found in (catalog.with_index("s", "by", order), catalog.with_index(order=order, name="by", table="s")):
                self.assertIs(type(found), Catalog)
                wanted = tables()
                wanted[1] = ("s", Rules(ONE), [("by", [("a", "down")])])
                self.assertEqual(found, Catalog(wanted))

    def test_the_index_is_behind_the_others(self):
        catalog = sample().with_index("t", "z", [("b", "up")]).with_index("t", "a", BY).with_index("t", "m", BY[1:])
        self.assertEqual(catalog.indexes_of("t"), [("z", Order([("b", "up")])), ("a", Order(BY)), ("m", Order(BY[1:]))])

    def test_wrong_names(self):
        catalog = sample()
        for value in [*odd_values(), *BAD_NAMES]:
            if not isinstance(value, str) or value not in ("a", "b", "abc", "number"):
                check_error(self, InvalidName, {"value": value}, catalog.with_index, "r", value, None)

    def test_a_name_that_is_taken(self):
        catalog = sample()
        for name in ("by", "second", "third"):
            check_error(self, NameTaken, {"value": name}, catalog.with_index, "r", name, None)
        check_error(self, NameTaken, {"value": "by"}, catalog.with_index, "abcdefgh", "by", [("c", "up")])
        catalog.with_index("s", "by", [("a", "up")])

    def test_wrong_orders(self):
        catalog = Catalog([("r", Rules(FOUR), [(name, [("d", "up")]) for name in ("ia", "ib", "ic")])])
        for value in odd_values():
            if not isinstance(value, (list, tuple, Order)):
                check_error(self, InvalidOrder, {"position": -1}, catalog.with_index, "r", "by", value)
            if value not in (("a", "up"), ("a", "number")):
                check_error(self, InvalidOrder, {"position": 1}, catalog.with_index, "r", "by", [("z", "up"), value])
        check_error(self, InvalidOrder, {"position": 2}, catalog.with_index, "r", "by", [("z", "up"), ("c", "up"), ("c", "down")])

    def test_columns_that_are_not_of_the_table(self):
        catalog = Catalog([("r", Rules(FOUR), [(name, [("d", "up")]) for name in ("ia", "ib", "ic")]), ("s", Rules(ONE), [])])
        for column in ("a", "coming", "r.d", "z", "number"):
            check_error(self, InvalidOrder, {"position": 0}, catalog.with_index, "r", "by", [(column, "up")])
            check_error(self, InvalidOrder, {"position": 1}, catalog.with_index, "r", "by", [("c", "up"), (column, "up"), ("zz", "up")])
        long = [("d", "up"), ("c", "up"), ("b", "up"), ("z", "up"), ("abcdefgh", "up")]
        check_error(self, InvalidOrder, {"position": 3}, catalog.with_index, "r", "by", long)

    def test_orders_of_another_length(self):
        full = Catalog([("r", Rules(FOUR), [(name, [("d", "up")]) for name in ("ia", "ib", "ic")])])
        for catalog in (full, Catalog([("r", Rules(FOUR), [])])):
            for order in ([], (), Order(), [(column, "down") for column, _ in FOUR]):
                check_error(self, InvalidOrder, {"position": -1}, catalog.with_index, "r", "by", order)

    def test_too_many_indexes(self):
        check_error(self, TooMany, {"kind": "indexes", "limit": 3}, sample().with_index, "r", "fourth", BY)
        check_error(self, NameTaken, {"value": "third"}, sample().with_index, "r", "third", BY)
        self.assertEqual(len(sample().with_index("abcdefgh", "x", [("d", "up")]).indexes_of("abcdefgh")), 2)


class EqualCatalogs(unittest.TestCase):
    def test_equal_if_the_tables_are(self):
        check_true(self, sample() == sample())
        check_false(self, sample() != sample())
        for at in range(4):
            check_false(self, sample() == Catalog(tables()[:at] + tables()[at + 1:]))
        check_true(self, Catalog([("r", Rules(TWO), [("by", BY)])]) == Catalog((("r", Rules(TWO), (("by", Order(BY)),)),)))

    def test_the_sequence_counts(self):
        check_false(self, sample() == Catalog(tables()[::-1]))
        one = Catalog([("r", Rules(TWO), [("x", BY), ("y", BY)])])
        check_false(self, one == Catalog([("r", Rules(TWO), [("y", BY), ("x", BY)])]))
        check_true(self, one == Catalog([("r", Rules(TWO), [("x", BY)])]).with_index("r", "y", BY))

    def test_each_part_counts(self):
        one = Catalog([("r", Rules(TWO), [("by", BY)])])
        for other in (("s", Rules(TWO), [("by", BY)]), ("r", Rules(TWO, [KEY]), [("by", BY)]), ("r", Rules(BACK), [("by", BY)]),
                      ("r", Rules(TWO), []), ("r", Rules(TWO), [("bz", BY)]), ("r", Rules(TWO), [("by", BY[:1])])):
            check_false(self, one == Catalog([other]))
            check_true(self, one != Catalog([other]))

    def test_not_equal_to_values_of_other_kinds(self):
        catalog = sample()
        for value in odd_values() + [tables(), tuple(tables()), catalog.tables]:
            check_false(self, catalog == value)
            check_false(self, value == catalog)
            check_true(self, catalog != value)

    def test_not_equal_to_what_calls_itself_equal_to_everything(self):
        class Everything:
            def __eq__(self, other):
                return True
        check_false(self, sample() == Everything())
        check_error(self, InvalidTable, {"position": 0}, Catalog, [Everything()])


if __name__ == "__main__":
    unittest.main()
