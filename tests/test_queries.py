"""[13]: queries, their parts, and what is wrong with them."""

import unittest

from pairsigns.errors import InvalidQuery, UnknownName, UnknownTable
from pairsigns.queries import Query, query_fits
from pairsigns.rules import Rules
from pairsigns.signs import Order
from pairsigns.tables import Catalog
from tests.query_samples import COLUMNS, JOINS, KINDS, REFERENCES, catalog_of, parts, query_of, simple
from tests.samples import BIG, check_error, check_false, check_same, check_true, odd_values

PARTS = ("equalities", "filters", "wanted", "runs", "order", "first")
NO_REFERENCES = ["r", "a", "r.", ".a", "r.z", "r.coming", "z.a", "r.a.b", "r..a", "R.a", "r.a ", "alone.a", ("r", "a"), ["r.a"],
                 ("r.a",)]


def no_references():
    """Values that are no references to r, s or t."""
    return odd_values() + NO_REFERENCES


class MakingQueries(unittest.TestCase):
    def test_what_is_kept(self):
        for query in (query_of(), query_of(**{name: tuple(part) for name, part in parts().items() if isinstance(part, list)}),
                      query_of(order=Order([("s.d", "up"), ("r.a", "down")]))):
            check_same(self, query.tables, ("r", "s", "t"))
            check_same(self, query.equalities, JOINS)
            check_same(self, query.filters, (("r.a", "<=", 5), ("s.d", "=", "x")))
            check_same(self, query.wanted, ("r.a", "t.e", "s.d"))
            check_same(self, query.runs, "distinct")
            self.assertIs(type(query.order), Order)
            check_same(self, query.order.entries, (("s.d", "up"), ("r.a", "down")))
            check_same(self, query.first, 10)

    def test_what_is_kept_if_little_is_passed(self):
        query = simple()
        for name, wanted in (("tables", ("r",)), ("equalities", ()), ("filters", ()), ("wanted", ("r.a",)), ("runs", "none")):
            check_same(self, getattr(query, name), wanted)
        self.assertEqual(query.order, Order())
        self.assertIs(query.first, None)
        self.assertEqual(query, Query(catalog_of(), ("r",), equalities=[], filters=[], wanted=("r.a",), order=Order()))

    def test_parts_are_passed_by_name(self):
        with self.assertRaises(TypeError):
            Query(catalog_of(), ("r",), [], [], ("r.a",))
        with self.assertRaises(TypeError):
            Query(catalog_of(), ("r",))
        self.assertEqual(Query(wanted=("r.a",), tables=("r",), catalog=catalog_of()), simple())

    def test_the_most_that_is_allowed(self):
        query = simple(("r", "s", "t"), tuple(REFERENCES[:6]), equalities=[*JOINS, *JOINS], filters=[("r.a", "<", BIG)] * 8,
                       order=[(reference, "down") for reference in REFERENCES[:6]], first=1000)
        self.assertEqual([len(part) for part in (query.wanted, query.equalities, query.filters, query.order)], [6, 4, 8, 6])
        for runs in ("distinct", "groups"):
            self.assertEqual(len(simple(("r",), ("r.a", "r.b", "r.c"), runs=runs, first=1).wanted), 3)

    def test_equalities_within_a_table(self):
        check_same(self, simple(equalities=[("r.a", "r.b")]).equalities, (("r.a", "r.b"),))

    def test_columns_of_tables(self):
        query = query_of()
        for table in query.tables:
            check_same(self, query.columns_of(table), COLUMNS[table])
        check_same(self, simple().columns_of(table="r"), COLUMNS["r"])

    def test_unknown_tables(self):
        for value in odd_values() + ["alone", "s", "R", "r.a", ("r",), ["r"]]:
            check_error(self, UnknownTable, {"value": value}, simple().columns_of, value)


class WrongParts(unittest.TestCase):
    def check(self, part, position, value, **changed):
        """The part is wrong, whether made anew or changed, and whatever stands behind it."""
        behind = {name: None if name != "first" else 0 for name in PARTS[PARTS.index(part) + 1:] if name not in changed}
        for more in ({}, behind):
            told = {"part": part, "position": position}
            check_error(self, InvalidQuery, told, query_of, **{part: value} | more | changed)
            check_error(self, InvalidQuery, told, query_of().changed, **{part: value} | more | changed)

    def check_tables(self, position, value):
        told = {"part": "tables", "position": position}
        check_error(self, InvalidQuery, told, Query, catalog_of(), value, wanted=None)
        check_error(self, InvalidQuery, told, Query, catalog_of(), value, wanted=("r.a",), equalities=0, filters=0, runs=0, order=0,
                    first=0)

    def test_tables(self):
        for value in odd_values() + [["r"], [], (), ("r", "s", "t", "alone"), "r", {"r": 1}, (None,) * 4]:
            if not isinstance(value, tuple) or not 1 <= len(value) <= 3:
                self.check_tables(-1, value)
        for value in odd_values() + ["z", "R", "r.a", "", ("r",), ["r"]]:
            self.check_tables(0, (value,))
            self.check_tables(1, ("r", value, None))
        self.check_tables(1, ("r", "r"))
        self.check_tables(2, ("r", "s", "r"))

    def test_equalities(self):
        for value in odd_values() + ["r.a", {JOINS[0]: 1}, iter(JOINS), [JOINS[0]] * 5, (None,) * 5]:
            if not isinstance(value, (list, tuple)) or len(value) > 4:
                self.check("equalities", -1, value)
        wrong = odd_values() + [["r.b", "s.b"], ("r.b",), ("r.b", "s.b", "t.e"), ("r.b", "r.b"), ("r.a", "r.c"), ("s.d", "s.b"), "rs"]
        for value in wrong + [("r.b", other) for other in no_references()] + [(one, "r.b") for one in no_references()]:
            self.check("equalities", 0, [value])
            self.check("equalities", 2, (*JOINS, value, None))

    def test_filters(self):
        for value in odd_values() + ["r.a", iter([("r.a", "=", 1)]), [("r.a", "=", 1)] * 9, (None,) * 9]:
            if not isinstance(value, (list, tuple)) or len(value) > 8:
                self.check("filters", -1, value)
        wrong = odd_values() + [["r.a", "=", 1], ("r.a", "="), ("r.a", "=", 1, 1), ("r.a", 1, "="), ("r.a", "=", "r.b"), "r=1"]
        wrong += [(reference, "=", 1) for reference in no_references()]
        wrong += [("r.a", sign, 1) for sign in odd_values() + ["==", "!=", "<>", "=<", "=>", "", " =", "< ", ("=",), ["="]]]
        wrong += [("s.d", sign, "x") for sign in ("<", "<=", ">", ">=", "==", None)]
        wrong += [("r.a", "<", value) for value in odd_values() if type(value) is not int]
        wrong += [("r.c", "=", value) for value in odd_values() + ["a" * 13, "A"] if not self.is_text(value)]
        for value in wrong:
            self.check("filters", 0, [value])
            self.check("filters", 1, (("r.a", "=", BIG), value, None))

    def is_text(self, value):
        return isinstance(value, str) and len(value) <= 12 and value.strip("abcdefghijklmnopqrstuvwxyz") == ""

    def test_filters_that_are_right(self):
        for sign in ("=", "<", "<=", ">", ">="):
            for value in (0, 1, -1, BIG, -BIG):
                check_same(self, simple(filters=[("r.a", sign, value)]).filters, (("r.a", sign, value),))
        for value in ("", "x", "a" * 12):
            check_same(self, simple(filters=[("r.c", "=", value)]).filters, (("r.c", "=", value),))

    def test_wanted(self):
        for value in odd_values() + [["r.a"], ["r.a", "r.b"], (), "r.a", {"r.a": 1}, tuple(REFERENCES[:7]), (None,) * 7]:
            if not isinstance(value, tuple) or not 1 <= len(value) <= 6:
                self.check("wanted", -1, value)
        for value in no_references():
            self.check("wanted", 0, (value,))
            self.check("wanted", 1, ("r.a", value, None))
        self.check("wanted", 2, ("r.a", "r.b", "r.a"))

    def test_how_many_are_wanted_with_runs(self):
        for runs in ("distinct", "groups"):
            for many in (4, 5, 6, 7):
                self.check("wanted", -1, tuple(REFERENCES[:many]), runs=runs)
            self.check("wanted", -1, (None,) * 4, runs=runs)
        self.check("wanted", -1, tuple(REFERENCES[:7]), runs="none")
        self.check("wanted", 5, (*REFERENCES[:5], None), runs="none", order=())
        for runs in odd_values() + ["Distinct", "group", ("distinct",), ["groups"], True]:
            if runs != "none":
                check_error(self, InvalidQuery, {"part": "runs", "position": -1}, query_of, wanted=tuple(REFERENCES[:6]), runs=runs,
                            order=None)
                self.check("wanted", -1, tuple(REFERENCES[:7]), runs=runs)
                self.check("wanted", 3, (*REFERENCES[:3], "r.a"), runs=runs)

    def test_runs(self):
        for value in odd_values() + ["", "Distinct", "group", "distinct ", ("distinct",), ["groups"], 3]:
            if value != "none" or not isinstance(value, str):
                self.check("runs", -1, value)

    def test_order(self):
        for value in odd_values() + ["r.a", "s.d, r.a down", {("r.a", "up"): 1}, iter([("r.a", "up")])]:
            if not isinstance(value, (list, tuple, Order)):
                self.check("order", -1, value)
        wrong = odd_values() + [["r.a", "up"], ("r.a",), ("r.a", "up", "up"), "r.a", ("r.a", "Up"), ("r.a", None), ("r.b", "up"),
                                ("r.coming", "up"), ("a", "up"), ("s.b", "up")]
        for value in wrong + [(reference, "up") for reference in no_references()]:
            self.check("order", 0, [value])
            self.check("order", 1, (("r.a", "down"), value, None))
        self.check("order", 2, [("r.a", "up"), ("t.e", "up"), ("r.a", "down"), None])
        self.check("order", 0, Order([("r.b", "up")]))
        self.check("order", 1, Order([("r.a", "up"), ("coming", "up")]))

    def test_first(self):
        for value in odd_values() + [0, -1, 1001, BIG, True, False, "10", (1,), [1]]:
            if value is not None and (type(value) is not int or not 1 <= value <= 1000):
                self.check("first", -1, value)
        for value in (None, 1, 2, 999, 1000):
            check_same(self, query_of(first=value).first, value)


class ConnectedTables(unittest.TestCase):
    def check(self, position, tables, equalities):
        told = {"part": "tables", "position": position}
        check_error(self, InvalidQuery, told, simple, tables, (f"{tables[0]}.a",), equalities=equalities)

    def test_tables_that_are_not_connected(self):
        self.check(1, ("r", "s"), [])
        self.check(1, ("r", "s"), [("r.a", "r.b")])
        self.check(1, ("r", "s", "t"), [])
        self.check(2, ("r", "s", "t"), [("r.b", "s.b")])
        self.check(1, ("r", "s", "t"), [("r.b", "t.a")])
        self.check(1, ("r", "s", "t"), [("s.b", "t.a")])
        self.check(1, ("t", "r", "s"), [("r.b", "s.b"), ("r.c", "s.d")])
        self.check(2, ("t", "r", "s"), [("t.a", "r.a"), ("t.e", "t.a"), ("r.a", "r.b")])

    def test_tables_that_are_connected(self):
        for tables in (("r", "s", "t"), ("t", "s", "r"), ("s", "r", "t")):
            for equalities in ([("r.b", "s.b"), ("s.b", "t.e")], [("t.e", "s.b"), ("s.b", "r.b")], [("r.a", "t.a"), ("r.c", "s.d")],
                               [("r.a", "r.b"), ("s.b", "t.a"), ("r.c", "s.d")]):
                self.assertEqual(simple(tables, (f"{tables[0]}.{COLUMNS[tables[0]][0][0]}",), equalities=equalities).tables, tables)

    def test_all_other_errors_come_first(self):
        told = {"part": "first", "position": -1}
        check_error(self, InvalidQuery, told, simple, ("r", "s"), first=0)
        check_error(self, InvalidQuery, {"part": "tables", "position": 1}, simple, ("r", "s"), first=1)
        check_error(self, InvalidQuery, {"part": "order", "position": 0}, simple, ("r", "s"), first=0, order=[0])


class ChangedQueries(unittest.TestCase):
    def test_each_part(self):
        query = query_of()
        for name, part in (("equalities", [("r.a", "s.b"), ("r.b", "t.e")]), ("filters", []), ("wanted", ("s.d", "r.a")), ("runs", "none"),
                           ("order", [("t.e", "up")]), ("first", None)):
            found = query.changed(**{name: part})
            self.assertIs(type(found), Query)
            self.assertEqual(found, query_of(**{name: part}))
            self.assertNotEqual(found, query)
        self.assertEqual(query, query_of())

    def test_several_parts_and_none(self):
        self.assertEqual(query_of().changed(), query_of())
        changed = {"wanted": tuple(REFERENCES[:6]), "runs": "none", "order": Order([("r.b", "up")]), "first": 1}
        self.assertEqual(query_of().changed(**changed), query_of(**changed))
        self.assertEqual(query_of().changed(**changed).changed(**parts()), query_of())

    def test_unknown_parts(self):
        for name in ("tables", "catalog", "columns", "", "First", "first ", "order_", "z"):
            check_error(self, UnknownName, {"value": name}, query_of().changed, **{name: ("r",)})
            check_error(self, UnknownName, {"value": name}, query_of().changed, **{name: ("r",), "equalities": 0, "wanted": 0})
        check_error(self, UnknownName, {"value": "catalog"}, query_of().changed, tables=(), zebra=1, catalog=1, first=0)
        check_error(self, UnknownName, {"value": "a"}, query_of().changed, **{"b": 1, "equalities": 1, "a": 1, "wanted": 1})

    def test_the_columns_stay(self):
        self.assertEqual(query_of().changed(first=3).columns_of("s"), COLUMNS["s"])
        check_error(self, InvalidQuery, {"part": "wanted", "position": 0}, query_of().changed, wanted=("alone.a",))

    def test_the_parts_go_together(self):
        check_error(self, InvalidQuery, {"part": "order", "position": 0}, query_of().changed, wanted=("r.a",))
        check_error(self, InvalidQuery, {"part": "tables", "position": 2}, query_of().changed, equalities=JOINS[:1])
        check_error(self, InvalidQuery, {"part": "wanted", "position": -1}, query_of().changed, wanted=tuple(REFERENCES[:4]))
        check_error(self, InvalidQuery, {"part": "wanted", "position": -1},
                    query_of(runs="none", wanted=tuple(REFERENCES[:4]), order=()).changed, runs="groups")


class QueriesNeverChange(unittest.TestCase):
    def test_what_was_passed_is_copied_and_left_as_it_was(self):
        passed = parts()
        query = Query(catalog_of(), ("r", "s", "t"), **passed)
        self.assertEqual(passed, parts())
        for name in ("equalities", "filters", "order"):
            passed[name].clear()
        self.assertEqual(query, query_of())

    def test_properties_are_not_assigned(self):
        query = query_of()
        for name in ("tables", *PARTS):
            with self.assertRaises(AttributeError):
                setattr(query, name, ())
        self.assertEqual(query, query_of())

    def test_a_query_does_not_keep_the_catalog(self):
        rules = [("key", ("a",))]
        one = Query(Catalog([("t", Rules(COLUMNS["t"], rules), [("by", [("a", "up")])]), ("s", Rules(COLUMNS["s"]), [])]), ("t",),
                    wanted=("t.a",))
        self.assertEqual(one, simple(("t",), ("t.a",)))


class EqualQueries(unittest.TestCase):
    def test_equal_if_all_parts_are(self):
        others = {"equalities": JOINS[::-1], "filters": parts()["filters"][::-1], "wanted": ("t.e", "r.a", "s.d"), "runs": "groups",
                  "order": [("s.d", "up")], "first": None}
        check_true(self, query_of() == query_of())
        check_false(self, query_of() != query_of())
        for name, part in others.items():
            check_false(self, query_of() == query_of(**{name: part}), name)
            check_true(self, query_of() != query_of(**{name: part}), name)
        check_false(self, query_of() == query_of(("s", "r", "t")))

    def test_the_columns_count(self):
        for columns in ((("a", "number"),), (("a", "number"), ("b", "text"), ("c", "text")), COLUMNS["r"][::-1]):
            other = Query(catalog_of({"r": columns}), ("r",), wanted=("r.a",))
            check_false(self, other == simple())
        check_true(self, Query(catalog_of({"z": COLUMNS["s"], "r": COLUMNS["r"]}), ("r",), wanted=("r.a",)) == simple())

    def test_not_equal_to_values_of_other_kinds(self):
        class Everything:
            def __eq__(self, other):
                return True
        for value in odd_values() + [parts(), query_of().tables]:
            check_false(self, query_of() == value)
            check_false(self, value == query_of())
        check_false(self, query_of() == Everything())


class FittingCatalogs(unittest.TestCase):
    def test_query_fits(self):
        query = query_of()
        check_true(self, query_fits(catalog_of(), query))
        check_true(self, query_fits(query=query, catalog=catalog_of({table: COLUMNS[table] for table in ("t", "s", "r")})))
        extended = catalog_of().with_rules("r", Rules(COLUMNS["r"], [("key", ())])).with_index("s", "by", [("d", "up")])
        check_true(self, query_fits(extended, query))
        check_true(self, query_fits(catalog_of({"t": COLUMNS["t"]}), simple(("t",), ("t.a",))))

    def test_query_does_not_fit(self):
        query = query_of()
        for table in ("r", "s", "t"):
            check_false(self, query_fits(catalog_of({name: columns for name, columns in COLUMNS.items() if name != table}), query))
            for columns in (COLUMNS[table][::-1], COLUMNS[table][:1], COLUMNS[table] + (("z", "text"),),
                            tuple((name, "text") for name, _ in COLUMNS[table])):
                check_false(self, query_fits(catalog_of(COLUMNS | {table: columns}), query))


class Samples(unittest.TestCase):
    def test_kinds(self):
        self.assertEqual([catalog_of().kind_of(reference) for reference in KINDS], list(KINDS.values()))


if __name__ == "__main__":
    unittest.main()
