"""[2] and the interface's introduction: names, arguments, kinds of values, and what stays as it was."""

import ast
import copy
import importlib
import inspect
import re
import unittest
from pathlib import Path

from pairsigns.choosing import Choice, folded_orders, foundation_of, least_sets, same_sort
from pairsigns.classes import class_of, classes_of, in_range, is_fixed, range_of, room_of
from pairsigns.desk import Desk
from pairsigns.errors import InvalidOrder, InvalidQuery, InvalidRow, InvalidRule, InvalidTable, InvalidValue, InvalidVector
from pairsigns.finding import found_rules, shortest_rules
from pairsigns.judging import determined, follows, least_keys, left_out, same_rules, triples_of
from pairsigns.pages import Paging, marking_of, page_after, token_of
from pairsigns.papers import is_refusal, refusal_of
from pairsigns.planning import filling, least_plan, least_rules, serves
from pairsigns.plans import check_plan, is_stream, is_whole, plan_tables, work_of
from pairsigns.queries import Query, combinations, is_answer, plain_output, query_fits
from pairsigns.questions import No, Yes, ask, is_broken_by, is_sound, same_sequence, short_list, vectors_of
from pairsigns.reasons import is_reason, rests_on
from pairsigns.rules import Rules, breaks, is_columns, is_rule, read_rule, rule_text
from pairsigns.running import plan_output, run_plan
from pairsigns.signs import Order, read_vector, sign_of, turned, vector_text
from pairsigns.stores import Store
from pairsigns.streams import Stream
from pairsigns.tables import Catalog, Database
from pairsigns.texts import index_text, plan_text, query_text, read_index, read_query, read_table, table_text
from pairsigns.views import View
from pairsigns.weakorders import pair_sign, signs_fit, weak_order_of, weak_orders
from pairsigns.wishes import is_shape, shapes_of, wishes_of
from pairsigns.worlds import World, database_of, is_free_world, is_world, worlds_of
from tests.query_samples import catalog_of, simple
from tests.rule_samples import ONE, TWO
from tests.samples import check_error, check_same

PACKAGE = Path(__file__).resolve().parent.parent / "pairsigns"
FUNCTIONS = {
    "signs": {"sign_of": ["one", "other"], "turned": ["vector"], "vector_text": ["vector"], "read_vector": ["text"]},
    "weakorders": {"weak_orders": ["count", "most"], "weak_order_of": ["values"], "pair_sign": ["ranks", "first", "second"],
                   "signs_fit": ["one", "other", "both"]},
    "rules": {"is_columns": ["value"], "is_rule": ["columns", "value"], "breaks": ["columns", "rule", "vector"],
              "rule_text": ["rule"], "read_rule": ["columns", "text"]},
    "judging": {"follows": ["rules", "rule"], "same_rules": ["one", "other"], "left_out": ["rules"], "least_keys": ["rules"],
                "determined": ["rules", "names"], "triples_of": ["rules", "names"]},
    "queries": {"query_fits": ["catalog", "query"], "combinations": ["database", "query"], "plain_output": ["database", "query"],
                "is_answer": ["database", "query", "rows"]},
    "classes": {"classes_of": ["query"], "class_of": ["query", "reference"], "range_of": ["query", "reference"],
                "room_of": ["query", "reference"], "is_fixed": ["query", "reference"], "in_range": ["query", "reference", "value"]},
    "plans": {"check_plan": ["catalog", "query", "plan"], "plan_tables": ["plan"], "is_whole": ["query", "plan"], "is_stream": ["plan"],
              "work_of": ["plan"]},
    "running": {"run_plan": ["database", "query", "plan"], "plan_output": ["database", "query", "plan"]},
    "worlds": {"is_world": ["stream", "value"], "is_free_world": ["stream", "value"], "database_of": ["stream", "world"],
               "worlds_of": ["stream", "size", "things"]},
    "questions": {"ask": ["stream", "question"], "is_sound": ["stream"], "is_broken_by": ["stream", "question", "world"],
                  "vectors_of": ["stream", "things"], "short_list": ["stream"], "same_sequence": ["one", "other"]},
    "reasons": {"is_reason": ["stream", "question", "value"], "rests_on": ["reason"]},
    "wishes": {"wishes_of": ["catalog", "query", "plan"], "shapes_of": ["catalog", "query"], "is_shape": ["catalog", "query", "value"]},
    "planning": {"serves": ["catalog", "query", "plan"], "filling": ["catalog", "query", "shape"], "least_plan": ["catalog", "query"],
                 "least_rules": ["catalog", "query", "offered"]},
    "papers": {"refusal_of": ["catalog", "query", "shape"], "is_refusal": ["catalog", "query", "shape", "value"]},
    "choosing": {"least_sets": ["catalog", "query", "offered"], "same_sort": ["rules", "one", "other"], "folded_orders": ["rules", "orders"],
                 "foundation_of": ["catalog", "query", "plan"]},
    "pages": {"marking_of": ["view"], "token_of": ["view", "position"], "page_after": ["view", "text", "count"]},
    "finding": {"found_rules": ["columns", "rows"], "shortest_rules": ["columns", "rows"]},
    "texts": {"table_text": ["catalog", "table"], "index_text": ["catalog", "table", "name"], "query_text": ["query"], "plan_text": ["plan"],
              "read_table": ["text"], "read_index": ["catalog", "text"], "read_query": ["catalog", "text"]},
}
METHODS = {
    ("signs", "Order"): {"__init__": ["entries"], "entries": [], "columns": [], "begin": ["count"], "then": ["other"],
                         "backwards": [], "sign": ["signs"], "from_text": ["text"], "__len__": [], "__contains__": ["column"],
                         "__eq__": ["other"], "__str__": [], "__repr__": []},
    ("rules", "Rules"): {"__init__": ["columns", "rules"], "columns": [], "rules": [], "names": [], "lets": ["vector"],
                         "first_broken": ["vector"], "vectors": [], "with_rule": ["rule"], "without": ["rule"], "__len__": [],
                         "__contains__": ["rule"], "__eq__": ["other"]},
    ("streams", "Stream"): {"__init__": ["catalog", "query", "plan"], "catalog": [], "query": [], "plan": [], "tables": [], "order": [],
                            "references": [], "things": [], "classes": [], "__eq__": ["other"]},
    ("worlds", "World"): {"__init__": ["size", "marks", "ranks"], "size": [], "marks": [], "ranks": [], "sign": ["thing", "first", "second"],
                          "sign_by": ["order", "first", "second"], "__eq__": ["other"]},
    ("questions", "Answer"): {},
    ("questions", "Yes"): {"__init__": ["reason"], "reason": [], "__bool__": [], "__eq__": ["other"]},
    ("questions", "No"): {"__init__": ["world"], "world": [], "__bool__": [], "__eq__": ["other"]},
    ("tables", "Catalog"): {"__init__": ["tables"], "tables": [], "rules_of": ["table"], "indexes_of": ["table"], "kind_of": ["reference"],
                            "with_rules": ["table", "rules"], "with_index": ["table", "name", "order"], "__eq__": ["other"]},
    ("tables", "Database"): {"__init__": ["catalog"], "catalog": [], "insert": ["table", "row"], "remove": ["table", "place"], "row": ["table", "place"],
                             "rows": ["table"], "sequence": ["table", "name"], "clone": [], "__len__": [], "__eq__": ["other"]},
    ("choosing", "Choice"): {"__init__": ["catalog", "queries", "offered"], "chosen": [], "needed_by": ["position"], "failing": [], "extended": []},
    ("stores", "Store"): {"__init__": ["catalog"], "update": ["table", "place", "row"], "write": ["writes"], "batch": [], "keep": ["name", "query", "plan"],
                          "view": ["name"], "drop": ["name"], "names": [], "clone": [], "__eq__": ["other"]},
    ("stores", "Batch"): {"insert": ["table", "row"], "remove": ["table", "place"], "update": ["table", "place", "row"], "writes": []},
    ("views", "View"): {"name": [], "query": [], "plan": [], "number": [], "rows": [], "wanted_rows": [], "news": [], "spot": ["places"], "__len__": [],
                        "__contains__": ["places"]},
    ("pages", "Paging"): {"__init__": ["view", "count"], "page": []},
    ("desk", "Desk"): {"__init__": [], "catalog": [], "store": [], "say": ["command"]},
}


def body_of(file):
    return ast.parse((PACKAGE / f"{file}.py").read_text(encoding="utf-8")).body


def without_addresses(value):
    """The repr of a value, without what tells two equal objects apart."""
    return re.sub(" object at 0x[0-9a-f]+", "", repr(value))


def arguments_of(function):
    return [argument.arg for argument in function.args.args]


class Interface(unittest.TestCase):
    def test_functions_are_defined_in_their_files(self):
        for file, functions in FUNCTIONS.items():
            defined = {part.name: arguments_of(part) for part in body_of(file) if isinstance(part, ast.FunctionDef)}
            for name, arguments in functions.items():
                self.assertEqual(defined.get(name), arguments, name)

    def test_methods_are_defined_in_their_classes(self):
        for (file, name), methods in METHODS.items():
            found = [part for part in body_of(file) if isinstance(part, ast.ClassDef) and part.name == name]
            self.assertEqual(len(found), 1)
            defined = {part.name: arguments_of(part)[1:] for part in found[0].body if isinstance(part, ast.FunctionDef)}
            for method, arguments in methods.items():
                self.assertEqual(defined.get(method), arguments, method)

    def test_functions_are_of_their_modules(self):
        for file, functions in FUNCTIONS.items():
            module = importlib.import_module(f"pairsigns.{file}")
            for name in functions:
                self.assertEqual(getattr(module, name).__module__, f"pairsigns.{file}")

    def test_defaults(self):
        self.assertEqual(inspect.signature(Order).parameters["entries"].default, ())
        self.assertEqual(inspect.signature(Rules).parameters["rules"].default, ())
        self.assertIs(inspect.signature(weak_orders).parameters["most"].default, None)
        parts = {name: part.default for name, part in inspect.signature(Query).parameters.items() if part.kind is part.KEYWORD_ONLY}
        self.assertEqual(parts, {"equalities": (), "filters": (), "wanted": inspect.Parameter.empty, "runs": "none", "order": (),
                                 "first": None})

    def test_kinds_of_methods(self):
        for owner, names in ((Order, ("entries", "columns")), (Rules, ("columns", "rules")), (Catalog, ("tables",)),
                             (Database, ("catalog",)),
                             (Query, ("tables", "equalities", "filters", "wanted", "runs", "order", "first")),
                             (Stream, ("catalog", "query", "plan", "tables", "order", "references", "things", "classes")),
                             (World, ("size", "marks", "ranks")), (Choice, ("chosen",)), (View, ("name", "query", "plan", "number")),
                             (type(Store(catalog_of()).batch()), ("writes",)), (Desk, ("catalog", "store"))):
            for name in names:
                self.assertIsInstance(vars(owner)[name], property)
        self.assertIsInstance(vars(Order)["from_text"], classmethod)
        self.assertTrue(inspect.isgeneratorfunction(weak_orders))
        for function in (combinations, run_plan, worlds_of, shapes_of):
            self.assertTrue(inspect.isgeneratorfunction(function))


class ByName(unittest.TestCase):
    """Each function and method gives the same by position and by the names in the interface."""

    def test_functions(self):
        for function, arguments in (
                (sign_of, {"one": 1, "other": 2}), (turned, {"vector": (1, 0)}), (vector_text, {"vector": (1, 0)}),
                (read_vector, {"text": "+0"}), (weak_order_of, {"values": [3, 1]}), (signs_fit, {"one": 1, "other": 0, "both": 1}),
                (pair_sign, {"ranks": (0, 1), "first": 1, "second": 0}), (is_columns, {"value": ONE}), (rule_text, {"rule": ("key", ())}),
                (is_rule, {"columns": ONE, "value": ("key", ())}), (read_rule, {"columns": ONE, "text": "key a"}),
                (breaks, {"columns": ONE, "rule": ("key", ("a",)), "vector": (0, 1)})):
            self.check_call(function, arguments)

    def test_methods(self):
        order, rules = Order([("a", "up"), ("b", "down")]), Rules(TWO, [("key", ("a",))])
        for method, arguments in (
                (order.begin, {"count": 1}), (order.then, {"other": [("c", "up")]}), (order.sign, {"signs": {"a": 1}}),
                (Order.from_text, {"text": "a down"}), (rules.lets, {"vector": (0, 0, 1)}), (rules.without, {"rule": ("key", ("a",))}),
                (rules.first_broken, {"vector": (0, 0, 1)}), (rules.with_rule, {"rule": ("key", ("b",))}),
                (Order, {"entries": [("a", "up")]}), (Rules, {"columns": ONE, "rules": [("key", ())]})):
            self.check_call(method, arguments)

    def test_judging(self):
        rules, rule = Rules(TWO, [("key", ("a",))]), ("key", ("a", "b"))
        for function, arguments in (
                (follows, {"rules": rules, "rule": rule}), (same_rules, {"one": rules, "other": Rules(TWO, [rule])}),
                (left_out, {"rules": rules.with_rule(rule)}), (least_keys, {"rules": rules}),
                (determined, {"rules": rules, "names": ["a"]}), (triples_of, {"rules": rules, "names": ("a", "coming")})):
            self.check_call(function, arguments)

    def test_tables(self):
        catalog = catalog_of()
        database = Database(catalog)
        database.insert("r", (1, 2, "x"))
        for call, arguments in (
                (Catalog, {"tables": [("r", Rules(ONE), [("by", [("a", "up")])])]}), (catalog.rules_of, {"table": "r"}),
                (catalog.indexes_of, {"table": "r"}), (catalog.kind_of, {"reference": "r.a"}),
                (catalog.with_rules, {"table": "t", "rules": Rules(catalog.rules_of("t").columns, [("key", ())])}),
                (catalog.with_index, {"table": "s", "name": "by", "order": [("d", "down")]}), (Database, {"catalog": catalog}),
                (database.row, {"table": "r", "place": 0}), (database.rows, {"table": "r"}), (database.clone, {}), (database.__len__, {})):
            self.check_call(call, arguments)

    def test_queries(self):
        query, database = simple(filters=[("r.a", "<", 5)]), Database(catalog_of())
        database.insert("r", (1, 2, "x"))
        for call, arguments in (
                (query.columns_of, {"table": "r"}), (query_fits, {"catalog": catalog_of(), "query": query}),
                (plain_output, {"database": database, "query": query}), (classes_of, {"query": query}),
                (is_answer, {"database": database, "query": query, "rows": [(1,)]}), (class_of, {"query": query, "reference": "r.a"}),
                (range_of, {"query": query, "reference": "r.a"}), (room_of, {"query": query, "reference": "r.a"}),
                (is_fixed, {"query": query, "reference": "r.a"}), (in_range, {"query": query, "reference": "r.a", "value": 5})):
            self.check_call(call, arguments)
        changed = {"wanted": ("r.b", "r.c"), "order": [("r.c", "up")], "filters": []}
        self.assertEqual(query.changed(**changed), query.changed(**dict(reversed(list(changed.items())))))
        self.assertEqual(changed, {"wanted": ("r.b", "r.c"), "order": [("r.c", "up")], "filters": []})

    def test_plans_streams_and_worlds(self):
        catalog, query, plan = catalog_of(), simple(filters=[("r.a", "<", 5)]), ("sort", (("r.a", "up"),), ("heap", "r"))
        database, stream = Database(catalog), Stream(catalog, query, plan)
        database.insert("r", (1, 2, "x"))
        world = World(1, {"r": (0,)}, {thing: (0,) for thing in stream.things})
        for call, arguments in (
                (check_plan, {"catalog": catalog, "query": query, "plan": plan}), (is_whole, {"query": query, "plan": plan}),
                (plan_tables, {"plan": plan}), (is_stream, {"plan": plan}), (work_of, {"plan": plan}),
                (Stream, {"catalog": catalog, "query": query, "plan": plan}), (plan_output, {"database": database, "query": query, "plan": plan}),
                (World, {"size": 1, "marks": {"r": (0,)}, "ranks": {"r.a": (0,)}}), (is_world, {"stream": stream, "value": world}),
                (is_free_world, {"stream": stream, "value": world}), (database_of, {"stream": stream, "world": world}),
                (world.sign, {"thing": "r.a", "first": 0, "second": 0}), (world.sign_by, {"order": [("r.a", "up")], "first": 0, "second": 0})):
            self.check_call(call, arguments)
        check_same(self, list(run_plan(query=query, plan=plan, database=database)), list(run_plan(database, query, plan)))
        check_same(self, list(worlds_of(things=["r.a"], size=2, stream=stream)), list(worlds_of(stream, 2, ["r.a"])))

    def test_questions_and_planning(self):
        catalog, query, shape = catalog_of(), simple(order=[("r.a", "up")]), ("sort", (), ("heap", "r"))
        stream, question, world = Stream(catalog, query, shape), ("sorted", (("r.coming", "up"),)), World(1, {}, {})
        reason, plan = ask(stream, question).reason, least_plan(catalog, query)
        for call, arguments in (
                (ask, {"stream": stream, "question": question}), (is_sound, {"stream": stream}), (same_sequence, {"one": stream, "other": stream}),
                (is_broken_by, {"stream": stream, "question": question, "world": world}), (vectors_of, {"stream": stream, "things": ["r.a", "r.b"]}),
                (short_list, {"stream": stream}), (is_reason, {"stream": stream, "question": question, "value": reason}),
                (rests_on, {"reason": reason}), (wishes_of, {"catalog": catalog, "query": query, "plan": shape}),
                (is_shape, {"catalog": catalog, "query": query, "value": shape}), (serves, {"catalog": catalog, "query": query, "plan": plan}),
                (filling, {"catalog": catalog, "query": query, "shape": shape}), (least_plan, {"catalog": catalog, "query": query}),
                (least_rules, {"catalog": catalog, "query": query, "offered": [("r", ("key", ()))]}), (Yes, {"reason": reason}), (No, {"world": world})):
            self.check_call(call, arguments)
        check_same(self, list(shapes_of(query=query, catalog=catalog)), list(shapes_of(catalog, query)))

    def test_papers_and_choosing(self):
        catalog, query, shape, rules = catalog_of(), simple(order=[("r.a", "up")]), ("heap", "r"), Rules(TWO, [("key", ("a",))])
        refusal, offered = refusal_of(catalog, query, shape), [("r", [("a", "up")])]
        for call, arguments in (
                (refusal_of, {"catalog": catalog, "query": query, "shape": shape}), (foundation_of, {"catalog": catalog, "query": simple(), "plan": shape}),
                (is_refusal, {"catalog": catalog, "query": query, "shape": shape, "value": refusal}), (least_sets, {"catalog": catalog, "query": query, "offered": offered}),
                (same_sort, {"rules": rules, "one": [("a", "up")], "other": [("b", "up")]}), (folded_orders, {"rules": rules, "orders": [[("a", "up")], [("b", "up")]]}),
                (Choice(catalog, [query], offered).needed_by, {"position": 0}), (Choice(catalog, [query], offered).failing, {})):
            self.check_call(call, arguments)
        by_name = Choice(queries=[query], offered=offered, catalog=catalog)
        self.assertEqual((by_name.chosen, by_name.extended()), ((0,), Choice(catalog, [query], offered).extended()))

    def test_stores_views_and_pages(self):
        store = Store(catalog=catalog_of())
        check_same(self, [store.insert(row=(1, 2, "x"), table="r"), store.update(row=(3, 4, "y"), place=0, table="r")], [0, 1])
        check_same(self, store.write(writes=[("insert", "r", (5, 6, "z"))]), [2])
        view = store.keep(plan=("heap", "r"), query=simple(), name="v")
        for call, arguments in (
                (Store, {"catalog": catalog_of()}), (store.view, {"name": "v"}), (store.names, {}), (view.spot, {"places": (1,)}), (view.rows, {}), (view.news, {}),
                (view.wanted_rows, {}), (store.clone, {})):
            self.check_call(call, arguments)
        self.assertEqual(marking_of(view=view), marking_of(view))
        check_same(self, token_of(position=0, view=view), token_of(view, 0))
        check_same(self, page_after(count=5, text="0 1", view=view), page_after(view, "0 1", 5))
        check_same(self, Paging(count=1, view=view).page(), [(1,)])
        check_same(self, store.drop(name="v"), None)

    def test_finding_texts_and_the_desk(self):
        catalog = catalog_of().with_index("r", "by", [("a", "up")])
        for call, arguments in (
                (found_rules, {"columns": ONE, "rows": [(1,), (1,)]}), (shortest_rules, {"columns": TWO, "rows": []}), (table_text, {"catalog": catalog, "table": "r"}),
                (index_text, {"catalog": catalog, "table": "r", "name": "by"}), (query_text, {"query": simple()}), (plan_text, {"plan": ("sort", (), ("heap", "r"))}),
                (read_table, {"text": "table r: a number; key"}), (read_index, {"catalog": catalog, "text": "index z on r: b"}),
                (read_query, {"catalog": catalog, "text": "from r; want r.b"})):
            self.check_call(call, arguments)
        check_same(self, Desk().say(command="table r: a number"), "ok")

    def test_generators(self):
        check_same(self, list(weak_orders(count=2, most=1)), list(weak_orders(2, 1)))
        database = Database(catalog_of())
        database.insert("r", (1, 2, "x"))
        check_same(self, list(combinations(query=simple(), database=database)), list(combinations(database, simple())))

    def check_call(self, call, arguments):
        """By position, by name, in the other sequence; and twice the same; and the arguments stay as they were."""
        before = copy.deepcopy(arguments)
        found = call(*arguments.values())
        for again in (call(**arguments), call(**dict(reversed(list(arguments.items())))), call(*arguments.values())):
            self.assertEqual(again, found)
            self.assertIs(type(again), type(found))
        self.assertEqual(arguments, before)
        self.assertEqual(without_addresses(arguments), without_addresses(before))


class TrueIsNotOne(unittest.TestCase):
    def test_values_and_vectors(self):
        for wrong in (True, False):
            check_error(self, InvalidValue, {"value": wrong}, sign_of, wrong, 1)
            check_error(self, InvalidValue, {"value": wrong}, sign_of, 0, wrong)
            check_error(self, InvalidValue, {"value": wrong}, weak_order_of, [0, 1, wrong])
            check_error(self, InvalidVector, {"value": (1, wrong)}, turned, (1, wrong))
            check_error(self, InvalidVector, {"value": (wrong,)}, vector_text, (wrong,))

    def test_rows_and_filters(self):
        for wrong in (True, False):
            check_error(self, InvalidRow, {"position": 0}, Database(catalog_of()).insert, "r", (wrong, 1, ""))
            check_error(self, InvalidQuery, {"part": "filters", "position": 0}, simple, filters=[("r.a", "=", wrong)])
            check_error(self, InvalidQuery, {"part": "first", "position": -1}, simple, first=wrong)

    def test_signs_of_rules(self):
        for sign in (True, False):
            rule = ("never", (("a", sign),))
            self.assertIs(is_rule(ONE, rule), False)
            check_error(self, InvalidRule, {"position": -1}, rule_text, rule)
            check_error(self, InvalidRule, {"position": -1}, breaks, ONE, rule, (0, 1))
            check_error(self, InvalidRule, {"position": 0}, Rules, ONE, [rule])
            check_error(self, InvalidVector, {"value": (sign, 1)}, breaks, ONE, ("key", ()), (sign, 1))
            check_error(self, InvalidVector, {"value": (0, sign)}, Rules(ONE).lets, (0, sign))

    def test_signs_are_returned_as_integers(self):
        for sign in (*turned((1, 0, -1)), sign_of(1, 2), sign_of("b", "a"), sign_of(0, 0), pair_sign((0, 1), 1, 0),
                     Order([("a", "down")]).sign({"a": 1}), Order().sign({}), *read_vector("-0+"), *weak_order_of([5, 7])):
            self.assertIs(type(sign), int)


class ListsAndTuples(unittest.TestCase):
    def test_where_a_list_is_asked_for_a_tuple_is_accepted(self):
        entries, rules, values = [("a", "up")], [("key", ("a",))], [2, 1]
        self.assertEqual(Order(tuple(entries)), Order(entries))
        self.assertEqual(Order().then(tuple(entries)), Order().then(entries))
        self.assertEqual(Rules(ONE, tuple(rules)), Rules(ONE, rules))
        self.assertEqual(weak_order_of(tuple(values)), weak_order_of(values))
        self.assertEqual(determined(Rules(ONE, rules), ("a",)), determined(Rules(ONE, rules), ["a"]))
        self.assertEqual(Catalog((("r", Rules(ONE), (("by", tuple(entries)),)),)), Catalog([("r", Rules(ONE), [("by", entries)])]))
        self.assertEqual(simple(equalities=(("r.a", "r.b"),), filters=(("r.a", "<", 5),), order=(("r.a", "up"),)),
                         simple(equalities=[("r.a", "r.b")], filters=[("r.a", "<", 5)], order=[("r.a", "up")]))
        self.assertEqual([Database(catalog_of()).insert("s", row) for row in ((1, "a"), [1, "a"])], [0, 0])

    def test_where_a_tuple_is_asked_for_a_list_is_not_accepted(self):
        check_error(self, InvalidVector, {"value": [0, 1]}, turned, [0, 1])
        check_error(self, InvalidVector, {"value": [0, 1]}, vector_text, [0, 1])
        check_error(self, InvalidVector, {"value": [0, 1]}, breaks, ONE, ("key", ()), [0, 1])
        check_error(self, InvalidOrder, {"position": 0}, Order, [["a", "up"]])
        check_error(self, InvalidRule, {"position": 0}, Rules, ONE, [["key", ("a",)]])
        self.assertIs(is_columns([("a", "number")]), False)
        check_error(self, InvalidTable, {"position": 0}, Catalog, [["r", Rules(ONE), []]])
        check_error(self, InvalidTable, {"position": 0}, Catalog, [("r", Rules(ONE), [["by", [("a", "up")]]])])
        for part, position, wrong in (("equalities", 0, [["r.a", "r.b"]]), ("filters", 0, [["r.a", "<", 5]]), ("wanted", -1, ["r.a"]),
                                      ("order", 0, [["r.a", "up"]])):
            check_error(self, InvalidQuery, {"part": part, "position": position}, simple, **{part: wrong})
        check_error(self, InvalidQuery, {"part": "tables", "position": -1}, simple, ["r"])

    def test_kinds_of_what_is_returned(self):
        rules = Rules(ONE, [("key", ("a",))])
        for found, kind in ((rules.vectors(), list), (rules.rules, tuple), (rules.columns, tuple), (rules.names(), tuple),
                            (Order([("a", "up")]).entries, tuple), (Order([("a", "up")]).columns, tuple), (turned((1,)), tuple),
                            (weak_order_of([1]), tuple), (read_vector("0"), tuple), (read_rule(ONE, "key a"), tuple)):
            self.assertIs(type(found), kind)
            for part in found:
                self.assertIn(type(part), (tuple, str, int))

    def test_kinds_of_what_is_returned_of_tables_and_queries(self):
        rules, query, database = Rules(ONE, [("key", ("a",))]), simple(filters=[("r.c", "=", "x")]), Database(catalog_of())
        database.insert("r", (1, 2, "x"))
        for found, kind in ((follows(rules, ("key", ("a",))), tuple), (follows(rules, ("key", ("a",)))[1], list), (least_keys(rules), list),
                            (least_keys(rules)[0], tuple), (determined(rules, []), tuple), (triples_of(rules, ("a",)), list),
                            (database.catalog.tables, tuple), (database.catalog.indexes_of("r"), list), (database.rows("r"), list),
                            (database.rows("r")[0], tuple), (database.row("r", 0), tuple), (query.tables, tuple), (query.filters, tuple),
                            (query.equalities, tuple), (query.wanted, tuple), (query.columns_of("r"), tuple), (query.order, Order),
                            (plain_output(database, query), list), (plain_output(database, query)[0], tuple), (classes_of(query), list),
                            (class_of(query, "r.a"), tuple), (range_of(query, "r.a"), tuple), (range_of(query, "r.c"), list),
                            (room_of(query, "r.a"), int), (is_fixed(query, "r.c"), bool), (in_range(query, "r.c", "x"), bool),
                            (query_fits(database.catalog, query), bool), (same_rules(rules, rules), bool), (left_out(rules), Rules)):
            self.assertIs(type(found), kind)


if __name__ == "__main__":
    unittest.main()
