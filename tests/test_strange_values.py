"""[2]: errors for every Python value: also for objects that call themselves equal to everything."""

import unittest

from pairsigns.choosing import Choice, folded_orders, foundation_of, least_sets, same_sort
from pairsigns.classes import class_of, in_range, is_fixed, range_of, room_of
from pairsigns.desk import Desk
from pairsigns.errors import (InvalidColumns, InvalidCommand, InvalidCount, InvalidName, InvalidOffer, InvalidOrder, InvalidPlan, InvalidQuery,
                              InvalidQuestion, InvalidRow, InvalidRule, InvalidTable, InvalidText, InvalidToken, InvalidValue, InvalidVector, InvalidWrite,
                              NotServing, UnknownName, UnknownPlace, UnknownTable)
from pairsigns.finding import found_rules, shortest_rules
from pairsigns.judging import determined, follows, triples_of
from pairsigns.pages import Paging, page_after, token_of
from pairsigns.papers import is_refusal, refusal_of
from pairsigns.planning import filling, least_rules, serves
from pairsigns.plans import check_plan
from pairsigns.queries import Query, is_answer
from pairsigns.questions import Yes, ask, is_broken_by, vectors_of
from pairsigns.reasons import is_reason
from pairsigns.rules import Rules, is_columns, is_rule, read_rule, rule_text
from pairsigns.signs import Order, read_vector, sign_of, turned
from pairsigns.stores import Store
from pairsigns.streams import Stream
from pairsigns.tables import Catalog, Database
from pairsigns.texts import index_text, read_index, read_query, read_table, table_text
from pairsigns.weakorders import weak_order_of
from pairsigns.wishes import is_shape, wishes_of
from pairsigns.worlds import World, is_free_world, is_world, worlds_of
from tests.plan_samples import catalog_of as plan_catalog
from tests.plan_samples import query_of
from tests.query_samples import catalog_of, simple
from tests.rule_samples import ONE, TWO
from tests.samples import check_error, check_false, check_true


class Everything:
    """Equal to everything, and not to be put into a dict."""
    __hash__ = None

    def __eq__(self, other):
        return True

    def __ne__(self, other):
        return False


class Mimic(Everything):
    """Equal to everything, and found in a dict where the thing would be that it mimics."""

    def __init__(self, thing):
        self.thing = thing

    def __hash__(self):
        return hash(self.thing)


class Touchy:
    """Fails where it is compared or asked for its hash."""
    __hash__ = None

    def __eq__(self, other):
        raise AssertionError("compared")

    def __bool__(self):
        raise AssertionError("tested")


def strange(*things):
    """New strange values, of which some mimic these things."""
    return [Everything(), Touchy(), *[Mimic(thing) for thing in things]]


class StrangeRules(unittest.TestCase):
    def test_signs_and_orders(self):
        for value in strange(1, "a", "up"):
            check_error(self, InvalidValue, {"value": value}, sign_of, 1, value)
            check_error(self, InvalidValue, {"value": value}, weak_order_of, [value])
            check_error(self, InvalidText, {"value": value}, read_vector, value)
            check_error(self, InvalidCount, {"value": value}, Order().begin, value)
            with self.assertRaises(InvalidVector):
                turned((value,))
            for entry in (value, ("a", value), (value, "up")):
                check_error(self, InvalidOrder, {"position": 0}, Order, [entry])
            check_error(self, InvalidOrder, {"position": -1}, Order, value)

    def test_columns_and_rules(self):
        for value in strange("a", "b", "key", "number", "up", 1):
            for columns in (value, (value,), (("a", value),), ((value, "number"),)):
                check_false(self, is_columns(columns))
                check_error(self, InvalidColumns, {"position": -1}, Rules, columns)
            for rule in self.rules_with(value):
                check_false(self, is_rule(TWO, rule))
                check_error(self, InvalidRule, {"position": -1}, rule_text, rule)
                check_error(self, InvalidRule, {"position": 0}, Rules, TWO, [rule])
                check_error(self, InvalidRule, {"position": -1}, follows, Rules(TWO, [("key", ("a",))]), rule)
            check_error(self, InvalidText, {"value": value}, read_rule, TWO, value)

    def rules_with(self, value):
        return [value, (value, ("a",)), ("key", value), ("key", (value,)), ("determines", (value,), "b"), ("determines", (), value),
                ("orders", value, (("a", "up"),)), ("orders", (("a", value),), (("a", "up"),)), ("orders", (("a", "up"),), ((value, "up"),)),
                ("never", value), ("never", (value,)), ("never", (("a", value),)), ("never", ((value, 1),))]

    def test_names(self):
        for value in strange("a", "b"):
            check_error(self, InvalidName, {"value": value}, determined, Rules(TWO), ["a", value])
            check_error(self, InvalidName, {"value": value}, triples_of, Rules(TWO), ("a", value))


class StrangeTables(unittest.TestCase):
    def test_catalogs(self):
        rules = Rules(ONE)
        for value in strange("r", "a", "by", "up"):
            check_error(self, InvalidTable, {"position": -1}, Catalog, value)
            for table in (value, (value, rules, []), ("r", value, []), ("r", rules, value), ("r", rules, [value]),
                          ("r", rules, [(value, [("a", "up")])]), ("r", rules, [("by", value)]), ("r", rules, [("by", [value])]),
                          ("r", rules, [("by", [(value, "up")])]), ("r", rules, [("by", [("a", value)])])):
                check_error(self, InvalidTable, {"position": 0}, Catalog, [table])

    def test_asking_catalogs(self):
        catalog = catalog_of()
        for value in strange("r", "r.a", "by"):
            for method in (catalog.rules_of, catalog.indexes_of):
                check_error(self, UnknownTable, {"value": value}, method, value)
            check_error(self, UnknownName, {"value": value}, catalog.kind_of, value)
            check_error(self, UnknownTable, {"value": value}, catalog.with_rules, value, Rules(ONE))
            check_error(self, UnknownTable, {"value": value}, catalog.with_index, value, "by", [])
            check_error(self, InvalidName, {"value": value}, catalog.with_index, "r", value, [])
            check_error(self, InvalidOrder, {"position": -1}, catalog.with_index, "r", "by", value)

    def test_databases(self):
        database = Database(Catalog([("r", Rules(ONE), [("by", [("a", "up")])])]))
        database.insert("r", (1,))
        for value in strange("r", "by", 0, 1):
            for method, rest in ((database.insert, ((1,),)), (database.remove, (0,)), (database.row, (0,)), (database.rows, ()),
                                 (database.sequence, ("by",))):
                check_error(self, UnknownTable, {"value": value}, method, value, *rest)
            check_error(self, InvalidRow, {"position": -1}, database.insert, "r", value)
            check_error(self, InvalidRow, {"position": 0}, database.insert, "r", (value,))
            check_error(self, UnknownPlace, {"value": value}, database.row, "r", value)
            check_error(self, UnknownPlace, {"value": value}, database.remove, "r", value)
            check_error(self, UnknownName, {"value": value}, database.sequence, "r", value)
        self.assertEqual(database.rows("r"), [(0, (1,))])


class StrangeQueries(unittest.TestCase):
    def check(self, part, position, value):
        check_error(self, InvalidQuery, {"part": part, "position": position}, simple, **{part: value})

    def test_parts(self):
        for value in strange("r", "r.a", "=", "up", 1, "none"):
            for part in ("equalities", "filters", "wanted", "runs", "order", "first"):
                self.check(part, -1, value)
            for part in ("equalities", "filters", "order"):
                self.check(part, 0, [value])
            for part, element in (("equalities", ("r.a", value)), ("equalities", (value, "r.a")), ("filters", (value, "=", 1)),
                                  ("filters", ("r.a", value, 1)), ("filters", ("r.a", "=", value)), ("filters", ("r.c", "=", value)),
                                  ("order", (value, "up")), ("order", ("r.a", value))):
                self.check(part, 0, [element])
            self.check("wanted", 0, (value,))

    def test_tables(self):
        for value in strange("r", ("r",)):
            check_error(self, InvalidQuery, {"part": "tables", "position": -1}, Query, catalog_of(), value, wanted=("r.a",))
            check_error(self, InvalidQuery, {"part": "tables", "position": 0}, Query, catalog_of(), (value,), wanted=("r.a",))
            check_error(self, UnknownTable, {"value": value}, simple().columns_of, value)

    def test_answers(self):
        database = Database(catalog_of())
        database.insert("r", (1, 2, "x"))
        for value in strange(1, (1,), "x"):
            check_false(self, is_answer(database, simple(), value))
            check_false(self, is_answer(database, simple(), [value]))
            check_false(self, is_answer(database, simple(), [(value,)]))

    def test_references(self):
        for value in strange("r.a"):
            for function in (class_of, range_of, room_of, is_fixed):
                check_error(self, UnknownName, {"value": value}, function, simple(), value)
            check_error(self, UnknownName, {"value": value}, in_range, simple(), value, 1)

    def test_nothing_is_equal_to_what_is_equal_to_everything(self):
        stream = Stream(catalog_of(), simple(), ("heap", "r"))
        for value in (Order(), Rules(ONE), catalog_of(), Database(catalog_of()), simple(), stream, World(1, {}, {}), Yes(())):
            check_false(self, value == Everything())
            check_false(self, value == Touchy())


class StrangePlans(unittest.TestCase):
    def test_plans(self):
        catalog, query = plan_catalog(), query_of(filters=[("s.d", "=", 1)], runs="distinct", first=2, order=(("r.a", "up"),))
        read = ("heap", "r")
        for value in strange("r", "heap", "s", "bd", "by", "r.b", "s.b", "up", 1, (("r.b", "up"),), (("r.b", "s.b", "up"),), read):
            for plan, path in (
                    (value, ()), ((value, "r"), ()), (("heap", value), ()), (("index", "r", value), ()), (("index", value, "by"), ()),
                    (("sort", value, read), ()), (("sort", (value,), read), ()), (("sort", ((value, "up"),), read), ()),
                    (("sort", (("r.b", value),), read), ()), (("sort", (("r.b", "up"),), value), (2,)), (("distinct", value), (1,)),
                    (("first", value), (1,)), (("merge", value, read, ("heap", "s")), ()), (("merge", (value,), read, ("heap", "s")), ()),
                    (("merge", ((value, "s.b", "up"),), read, ("heap", "s")), ()), (("merge", (("r.b", value, "up"),), read, ("heap", "s")), ()),
                    (("merge", (("r.b", "s.b", value),), read, ("heap", "s")), ()), (("merge", (("r.b", "s.b", "up"),), read, value), (3,)),
                    (("seek", read, value, "bd", 1), ()), (("seek", read, "s", value, 1), ()), (("seek", read, "s", "bd", value), ()),
                    (("seek", value, "s", "bd", 1), (1,))):
                check_error(self, InvalidPlan, {"path": path}, check_plan, catalog, query, plan)
                check_error(self, InvalidPlan, {"path": path}, Stream, catalog, query, plan)

    def test_worlds(self):
        stream = Stream(plan_catalog(), query_of(), ("heap", "s"))
        parts = (2, {"s": (0, 1)}, {"s.b": (0, 0), "s.d": (1, 0), "s.coming": (0, 1)})
        check_true(self, is_world(stream, World(*parts)))
        for value in strange(0, 1, 2, (0, 1)):
            for size, marks, ranks in ((value, *parts[1:]), (2, {"s": value}, parts[2]), (2, {"s": (0, value)}, parts[2]),
                                       (2, parts[1], parts[2] | {"s.b": value}), (2, parts[1], parts[2] | {"s.b": (0, value)})):
                found = World(size, marks, ranks)
                check_false(self, is_free_world(stream, found))
                check_false(self, is_world(stream, found))
            check_false(self, is_world(stream, value))
            check_error(self, InvalidCount, {"value": value}, next, worlds_of(stream, value, []))
            check_error(self, UnknownName, {"value": value}, next, worlds_of(stream, 2, ["s.b", value]))


class StrangeQuestions(unittest.TestCase):
    def test_questions_and_reasons(self):
        stream = Stream(plan_catalog({"r": [("key", ("a",))]}), query_of(), ("index", "r", "by"))
        question, asked, listed = ("sorted", (("r.b", "up"),)), ("ends", ("asked",)), ("ends", ("list",))
        check_true(self, is_reason(stream, question, ("split", "r.b", (asked, asked, listed))))
        for value in strange("sorted", "key", "r.b", "r", "up", "ends", "split", "asked", "list", "rule", ("key", ("a",)), asked, listed, ("asked",)):
            for wrong in (value, (value,), (value, ()), ("sorted", value), ("sorted", (value,)), ("sorted", ((value, "up"),)), ("sorted", (("r.b", value),)),
                          ("key", value), ("key", (value,)), ("key", ("r.b", value)), ("determines", ("r.b",), value), ("constant", value)):
                check_error(self, InvalidQuestion, {}, ask, stream, wrong)
                check_error(self, InvalidQuestion, {}, is_broken_by, stream, wrong, None)
                check_error(self, InvalidQuestion, {}, is_reason, stream, wrong, asked)
            for wrong in (value, (value, ("asked",)), ("ends", value), ("ends", (value,)), ("ends", ("rule", value, ("key", ("a",)))),
                          ("ends", ("rule", "r", value)), ("ends", ("same", value)), ("ends", ("room", value)), ("split", value, (asked, asked, listed)),
                          ("split", "r.b", value), ("split", "r.b", (asked, asked, value)), (value, "r.b", (asked, asked, listed)),
                          ("split", "r", (listed, ("ends", ("rule", "r", value))))):
                check_false(self, is_reason(stream, question, wrong))
            check_false(self, is_broken_by(stream, question, value))
            check_error(self, UnknownName, {"value": value}, vectors_of, stream, ["r.b", value])

    def test_planning(self):
        catalog, query = plan_catalog(), query_of(("r", "s"), runs="distinct", first=2, order=(("r.a", "up"),))
        read = ("heap", "r")
        for value in strange("r", "heap", (), read, ("distinct", read), ("r", ("key", ())), ("key", ())):
            for plan in (value, ("first", value), ("first", ("distinct", value)), ("first", ("sort", value, ("distinct", read))),
                         ("first", ("distinct", ("sort", value, read)))):
                check_false(self, serves(catalog, query, plan))
                check_false(self, is_shape(catalog, query, plan))
                check_error(self, InvalidPlan, {"path": ()}, filling, catalog, query, plan)
            check_error(self, InvalidPlan, {"path": (1,)}, wishes_of, catalog, query, ("first", value))
            check_error(self, InvalidOffer, {"position": -1}, least_rules, catalog, query, value)
            for offer in (value, (value, ("key", ())), ("r", value)):
                check_error(self, InvalidOffer, {"position": 1}, least_rules, catalog, query, [("r", ("key", ("a",))), offer])

    def test_refusals(self):
        query, shape = query_of(("r",), order=(("r.a", "down"),)), ("heap", "r")
        choices, end, worlds = refusal_of(plan_catalog(), query, shape)
        for value in strange((), 0, end, worlds, end[1], shape):
            for wrong in (value, (value, end, worlds), (choices, value, worlds), (choices, end, value), (choices, (value, end[1]), worlds), (choices, (0, value), worlds),
                          (choices, end, (value,)), (choices, end, ((value, ("r.a", "up"), 0, end[1]),))):
                check_false(self, is_refusal(plan_catalog(), query, shape, wrong))
            check_error(self, InvalidPlan, {"path": ()}, refusal_of, plan_catalog(), query, value)
            check_error(self, InvalidPlan, {"path": ()}, is_refusal, plan_catalog(), query, ("first", value), None)

    def test_refusals_with_sorts(self):
        query, shape = query_of(("r", "s"), order=(("r.a", "down"),)), ("merge", (("r.b", "s.b", "up"),), ("sort", (), ("heap", "r")), ("heap", "s"))
        choices, end, worlds = refusal_of(plan_catalog(), query, shape)
        self.assertTrue(worlds)
        sort, entry, number, world = worlds[0]
        for value in strange(sort, entry, number, world, "up", entry[0]):
            for wrong in ((value, entry, number, world), (sort, value, number, world), (sort, entry, value, world), (sort, entry, number, value), (sort, (value, entry[1]), number, world),
                          (sort, (entry[0], value), number, world)):
                check_false(self, is_refusal(plan_catalog(), query, shape, (choices, end, (wrong, *worlds[1:]))))
            check_false(self, is_refusal(plan_catalog(), query, shape, ((value,), end, worlds)))
            check_false(self, is_refusal(plan_catalog(), query, shape, (((value,),), end, worlds)))


class StrangeChoices(unittest.TestCase):
    def test_offers_and_orders(self):
        catalog, query = plan_catalog(), query_of(("r",))
        choice = Choice(catalog, [query], [])
        for value in strange("r", "a", "up", (("a", "up"),), ("r", (("a", "up"),)), 0):
            for offered, position in ((value, -1), ([value], 0), ([(value, [("a", "up")])], 0), ([("r", value)], 0), ([("r", [value])], 0), ([("r", [(value, "up")])], 0)):
                check_error(self, InvalidOffer, {"position": position}, least_sets, catalog, query, offered)
                check_error(self, InvalidOffer, {"position": position}, Choice, catalog, [query], offered)
            check_error(self, InvalidCount, {"value": value}, choice.needed_by, value)
            check_error(self, InvalidOrder, {"position": -1}, same_sort, Rules(ONE), value, [])
            check_error(self, InvalidOrder, {"position": 0}, same_sort, Rules(ONE), [], [(value, "up")])
            check_error(self, InvalidOrder, {"position": 0}, folded_orders, Rules(ONE), [[("a", value)]])
            check_error(self, NotServing, {}, foundation_of, catalog, query, value)


class StrangeStores(unittest.TestCase):
    def test_writes(self):
        store = Store(catalog_of())
        store.insert("r", (1, 2, "x"))
        for value in strange("r", "insert", "remove", 0, 1, (1, 2, "x"), []):
            check_error(self, InvalidWrite, {"position": -1}, store.write, value)
            for write in (value, (value, "r", 0), ("insert", value, (1, 2, "x")), ("insert", "r", value), ("insert", "r", (value, 2, "x")), ("insert", "r", (1, 2, value)),
                          ("remove", value, 0), ("remove", "r", value), ("update", value, 0, (1, 2, "x")), ("update", "r", value, (1, 2, "x")), ("update", "r", 0, value)):
                check_error(self, InvalidWrite, {"position": 0}, store.write, [write])
            check_error(self, UnknownTable, {"value": value}, store.update, value, 0, (1, 2, "x"))
            check_error(self, UnknownPlace, {"value": value}, store.update, "r", value, (1, 2, "x"))
            check_error(self, InvalidRow, {"position": -1}, store.update, "r", 0, value)
            check_error(self, InvalidRow, {"position": 1}, store.update, "r", 0, (1, value, "x"))
            batch = store.batch()
            batch.insert(value, value)
            self.assertIs(batch.writes[0][1], value)
            check_error(self, InvalidWrite, {"position": 0}, store.write, batch)
        self.assertEqual(store.rows("r"), [(0, (1, 2, "x"))])

    def test_views(self):
        store = Store(catalog_of())
        store.insert("r", (1, 2, "x"))
        view = store.keep("v", simple(), ("heap", "r"))
        for value in strange("v", "w", (0,), 0, 1, "0 0", ("heap", "r")):
            check_error(self, InvalidName, {"value": value}, store.keep, value, simple(), ("heap", "r"))
            check_error(self, InvalidPlan, {"path": ()}, store.keep, "w", simple(), value)
            check_error(self, UnknownName, {"value": value}, store.view, value)
            check_error(self, UnknownName, {"value": value}, store.drop, value)
            for places in (value, (value,)):
                check_false(self, places in view)
                with self.assertRaises(UnknownPlace):
                    view.spot(places)
            check_error(self, InvalidCount, {"value": value}, token_of, view, value)
            check_error(self, InvalidToken, {"value": value}, page_after, view, value, 1)
            check_error(self, InvalidCount, {"value": value}, page_after, view, "0 0", value)
            check_error(self, InvalidCount, {"value": value}, Paging, view, value)

    def test_rules_and_texts(self):
        for value in strange("a", 1, (1,), "table r: a number", "r", "from r; want r.a", "rows r"):
            for function in (found_rules, shortest_rules):
                check_error(self, InvalidColumns, {"position": -1}, function, value, [])
                check_error(self, InvalidRow, {"position": -1}, function, ONE, value)
                check_error(self, InvalidRow, {"position": 0}, function, ONE, [value])
                check_error(self, InvalidRow, {"position": 0}, function, ONE, [(value,)])
            check_error(self, UnknownTable, {"value": value}, table_text, catalog_of(), value)
            check_error(self, UnknownTable, {"value": value}, index_text, catalog_of(), value, "by")
            check_error(self, UnknownName, {"value": value}, index_text, catalog_of(), "r", value)
            check_error(self, InvalidText, {"value": value}, read_table, value)
            check_error(self, InvalidText, {"value": value}, read_index, catalog_of(), value)
            check_error(self, InvalidText, {"value": value}, read_query, catalog_of(), value)
            check_error(self, InvalidCommand, {"value": value}, Desk().say, value)


if __name__ == "__main__":
    unittest.main()
