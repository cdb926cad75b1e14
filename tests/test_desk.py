"""[37]: the desk, its commands and its answers, held against the functions and methods that they stand for."""

import random
import unittest

from pairsigns.desk import Desk
from pairsigns.errors import (InUse, InvalidCommand, InvalidCount, InvalidOrder, InvalidRow, InvalidTable, InvalidText, InvalidToken, NameTaken, NotServing,
                              RuleBroken, TooMany, UnknownName, UnknownPlace, UnknownTable)
from pairsigns.finding import found_rules
from pairsigns.pages import page_after, token_of
from pairsigns.planning import least_plan
from pairsigns.plans import work_of
from pairsigns.queries import is_answer
from pairsigns.rules import rule_text
from pairsigns.running import plan_output
from pairsigns.signs import Order
from pairsigns.stores import Store
from pairsigns.texts import index_text, plan_text, query_text, table_text
from tests.plan_samples import random_catalog, random_query
from tests.samples import BIG, check_error, check_same, edits, odd_values

R = "table r: a number, b text; key a"
S = "table s: a number, c number"
BY = "index by on s: a, c down"
JOIN = "from r, s; where r.a = s.a; want r.b, s.c; order r.b"
WORDS = ("table", "index", "insert", "remove", "rows", "plan", "answer", "keep", "view", "token", "after", "found")
GOOD = ("index by on r: a", "insert r 5,x", "remove r 0", "rows r", "plan from r; want r.a", "answer from r; want r.a", "keep w from r; want r.a", "view v", "token v 0",
        "after v 1 0 0", "found r")


def desk_with(*commands):
    desk = Desk()
    for command in commands:
        desk.say(command)
    return desk


def filled():
    return desk_with(R, S, BY, "insert r 1,x", "insert r 2,\"\"", "insert r -3,x", "insert s 1,5", "insert s 1,-7", "insert s 2,0")


def text_of(row):
    return ",".join('""' if value == "" else str(value) for value in row)


def lines(rows):
    return "\n".join(map(text_of, rows)) or "-"


class Beginning(unittest.TestCase):
    def test_without_a_table(self):
        desk = Desk()
        check_same(self, (desk.catalog, desk.store), (None, None))
        for command in GOOD + tuple(odd_values()) + ("table", "table ", "tables r: a number", "Table r: a number"):
            check_error(self, InvalidCommand, {"value": command}, desk.say, command)
        check_error(self, InvalidText, {"value": "r"}, desk.say, "table r")
        check_error(self, InvalidText, {"value": " r: a number"}, desk.say, "table  r: a number")
        check_same(self, (desk.catalog, desk.store), (None, None))
        for name in ("catalog", "store"):
            with self.assertRaises(AttributeError):
                setattr(desk, name, None)

    def test_tables_and_indexes(self):
        desk = Desk()
        check_same(self, desk.say(R), "ok")
        first = desk.store
        self.assertEqual(first, Store(desk.catalog))
        check_same(self, desk.say(command=S), "ok")
        self.assertIsNot(desk.store, first)
        check_same(self, desk.say(BY), "ok")
        check_same(self, desk.say("index ba on s: c"), "ok")
        check_same(self, desk.catalog.tables, ("r", "s"))
        check_same(self, [table_text(desk.catalog, table) for table in "rs"], [R, S])
        check_same(self, [index_text(desk.catalog, "s", name) for name, _ in desk.catalog.indexes_of("s")], [BY, "index ba on s: c"])
        self.assertIs(type(desk.store), Store)
        self.assertEqual(desk.store.catalog, desk.catalog)
        self.assertEqual(len(desk.store), 0)

    def test_tables_and_indexes_that_are_refused(self):
        desk = desk_with(R, S, BY)
        catalog, store = desk.catalog, desk.store
        for command, error, told in (
                ("table r: a number", InvalidTable, {"position": 2}), ("table t", InvalidText, {"value": "t"}), ("table table t: a number", InvalidText, {"value": "table t: a number"}),
                ("table t: a number\n", InvalidText, {"value": "t: a number\n"}), ("index by on s: a", NameTaken, {"value": "by"}), ("index x on t: a", InvalidText, {"value": "x on t: a"}),
                ("index x on s: b", InvalidText, {"value": "x on s: b"}), ("index  x on s: a", InvalidText, {"value": " x on s: a"})):
            check_error(self, error, told, desk.say, command)
        self.assertIs(desk.catalog, catalog)
        self.assertIs(desk.store, store)
        for name in ("x", "y"):
            desk.say(f"index {name} on s: a")
        check_error(self, TooMany, {"kind": "indexes", "limit": 3}, desk.say, "index z on s: a")
        check_error(self, NameTaken, {"value": "x"}, desk.say, "index x on s: a")
        desk.say("table t: a number")
        desk.say("table u: a number")
        check_error(self, InvalidTable, {"position": -1}, desk.say, "table v: a number")
        check_error(self, InvalidTable, {"position": -1}, desk.say, "table r: a number")
        check_same(self, desk.catalog.tables, ("r", "s", "t", "u"))

    def test_in_use(self):
        for use in (lambda desk: desk.say("insert r 1,x"), lambda desk: desk.say("keep v from r; want r.a"), lambda desk: desk.store.insert("s", (1, 2)),
                    lambda desk: desk.store.remove("s", desk.store.insert("s", (1, 2))), lambda desk: desk.store.write([("insert", "r", (1, "x")), ("remove", "r", 0)]),
                    lambda desk: desk.store.keep("v", self.plain(desk), ("heap", "r")), lambda desk: (desk.say("keep v from r; want r.a"), desk.store.drop("v"))):
            desk = desk_with(R, S)
            use(desk)
            kept = (desk.catalog, desk.store)
            for command in ("table t: a number", "index by on s: a", "table t", "index", "table r: a number", "index by on z: a"):
                error, told = (InUse, {}) if " " in command else (InvalidCommand, {"value": command})
                check_error(self, error, told, desk.say, command)
            self.assertIs(desk.catalog, kept[0])
            self.assertIs(desk.store, kept[1])

    def plain(self, desk):
        from pairsigns.texts import read_query
        return read_query(desk.catalog, "from r; want r.a")

    def test_not_in_use(self):
        desk = desk_with(R, S)
        desk.store.write([])
        desk.store.write(desk.store.batch())
        for command, error in (("insert r 1", InvalidRow), ("keep v from r; want r.b; first 1", NotServing), ("remove r 0", UnknownPlace)):
            with self.assertRaises(error):
                desk.say(command)
        with self.assertRaises(InvalidOrder):
            desk.catalog.with_index("r", "by", [("z", "up")])
        old = desk.store
        check_same(self, desk.say(BY), "ok")
        old.insert("r", (1, "x"))
        check_same(self, desk.say("table t: a number"), "ok")
        check_same(self, desk.say("rows r"), "-")


class Rows(unittest.TestCase):
    def test_inserting_and_removing(self):
        desk = desk_with(R, S)
        check_same(self, desk.say("rows r"), "-")
        check_same(self, [desk.say(f"insert r {values}") for values in ("5,x", '-6,""', f"{BIG},abcdefghijkl")], ["0", "1", "2"])
        check_same(self, desk.say("remove r 1"), "ok")
        check_same(self, desk.say("insert r 0,r"), "3")
        check_same(self, desk.say("rows r"), f"0: 5,x\n2: {BIG},abcdefghijkl\n3: 0,r")
        check_same(self, desk.say("rows s"), "-")
        check_same(self, desk.store.rows("r"), [(0, (5, "x")), (2, (BIG, "abcdefghijkl")), (3, (0, "r"))])

    def test_rows_of_the_store_itself(self):
        desk = desk_with(R, S)
        desk.store.insert("s", (1, 2))
        check_same(self, desk.say("rows s"), "0: 1,2")
        check_same(self, desk.say("insert s 3,4"), "1")
        check_same(self, desk.store.row("s", 1), (3, 4))

    def test_refused(self):
        desk = filled()
        kept = desk.store.clone()
        for command, error, told in (
                ("insert z 1,x", UnknownTable, {"value": "z"}), ("insert r 1,x", RuleBroken, {"table": "r", "place": 0, "rule": ("key", ("a",))}),
                ("insert r 1", InvalidRow, {"position": -1}), ("insert r 9,x,1", InvalidRow, {"position": -1}), ("insert r x,x", InvalidRow, {"position": 0}),
                ("insert r 9,9", InvalidRow, {"position": 1}), ("insert r x,X", InvalidText, {"value": "X"}), ("insert z 01,", InvalidText, {"value": "01"}),
                ("insert r 9,", InvalidText, {"value": ""}), ("insert r ,", InvalidText, {"value": ""}), ("insert r 9, x", InvalidText, {"value": " x"}),
                ("insert r  9,x", InvalidText, {"value": " 9"}), ("insert r -0,x", InvalidText, {"value": "-0"}), ("insert r 9,abcdefghijklm", InvalidText, {"value": "abcdefghijklm"}),
                ('insert r 9,"', InvalidText, {"value": '"'}), ("insert r 9,x\n", InvalidText, {"value": "x\n"}), ("insert r +9,x", InvalidText, {"value": "+9"}),
                ("insert r 1 2", InvalidText, {"value": "1 2"}), ("remove z 0", UnknownTable, {"value": "z"}), ("remove r 3", UnknownPlace, {"value": 3}),
                ("remove r -1", InvalidCommand, {"value": "remove r -1"}), ("remove r 00", InvalidCommand, {"value": "remove r 00"}), ("rows z", UnknownTable, {"value": "z"})):
            check_error(self, error, told, desk.say, command)
        self.assertEqual(desk.store, kept)
        check_same(self, desk.say("insert r 9,x"), "3")


class Answers(unittest.TestCase):
    def test_by_hand(self):
        desk = filled()
        check_same(self, desk.say("answer from r; want r.a; order r.a down"), "2\n1\n-3")
        check_same(self, desk.say("answer from r; want r.b; groups; order r.b"), '"",1\nx,2')
        check_same(self, desk.say("answer from r; want r.b; distinct; order r.b down; first 1"), "x")
        check_same(self, desk.say("answer from r; where r.a > 5; want r.a"), "-")
        self.assertIn(desk.say("answer " + JOIN), ('"",0\nx,-7\nx,5', '"",0\nx,5\nx,-7'))
        check_same(self, desk.say("plan from r; want r.a"), "heap(r) (0, 0)")
        check_same(self, desk.say("plan from r; want r.a; order r.a down; first 2"), "first(sort(r.a down; heap(r))) (1, 0)")
        self.assertRegex(desk.say("plan from r, s; where r.a = s.a; want r.b"), r"\Aseek\(heap\(r\); s, by, 1\) \(0, 1\)\Z")

    def test_refused(self):
        desk = filled()
        for word in ("plan", "answer", "keep v"):
            for text in ("from z; want z.a", "from r", " from r; want r.a", "from r; want r.a ", "from r; want r.a; order r.b", "r"):
                check_error(self, InvalidText, {"value": text}, desk.say, f"{word} {text}")
        check_same(self, desk.store.names(), [])

    def test_against_the_functions(self):
        dice, many = random.Random(371), 0
        for _ in range(30):
            catalog = random_catalog(dice, most_rules=1)
            desk = desk_with(*[table_text(catalog, table) for table in catalog.tables],
                             *[index_text(catalog, table, name) for table in catalog.tables for name, _ in catalog.indexes_of(table)])
            self.assertEqual(desk.catalog, catalog)
            fill(dice, desk)
            for query in [query for query in [random_query(dice, catalog) for _ in range(6)] if query is not None]:
                text, plan = query_text(query), least_plan(catalog, query)
                check_same(self, desk.say(f"plan {text}"), f"{plan_text(plan)} {work_of(plan)}")
                rows = plan_output(desk.store, query, plan)
                self.assertTrue(is_answer(desk.store, query, rows))
                check_same(self, desk.say(f"answer {text}"), lines(rows))
                many += len(rows)
        self.assertGreater(many, 100)


def fill(dice, desk):
    """Some rows for each table, by the desk."""
    for table in desk.catalog.tables:
        columns = desk.catalog.rules_of(table).columns
        for _ in range(dice.choice((0, 3, 8, 12))):
            row = [dice.randint(-1, 2) if kind == "number" else dice.choice(("x", "y", "")) for _, kind in columns]
            try:
                desk.say(f"insert {table} {text_of(row)}")
            except RuleBroken:
                pass
        for place, _ in desk.store.rows(table):
            if dice.random() < 0.2:
                desk.say(f"remove {table} {place}")


class Views(unittest.TestCase):
    def test_by_hand(self):
        desk = filled()
        check_same(self, desk.say("keep v from r; want r.b, r.a; order r.a"), "ok")
        check_same(self, desk.say("view v"), 'x,-3\nx,1\n"",2')
        check_same(self, [desk.say(f"token v {position}") for position in range(3)], ["0 -3", "0 1", "0 2"])
        check_same(self, desk.say("after v 1 0 -3"), "x,1")
        check_same(self, desk.say("after v 5 0 -3"), 'x,1\n"",2')
        check_same(self, desk.say("after v 0 0 -3"), "-")
        check_same(self, desk.say("after v 5 0 2"), "-")
        desk.say("remove r 0")
        check_same(self, desk.say("after v 5 0 -3"), '"",2')
        check_same(self, desk.say("keep w from r; where r.a > 9; want r.a"), "ok")
        check_same(self, desk.say("view w"), "-")
        check_same(self, desk.store.names(), ["v", "w"])
        check_same(self, desk.store.view("w").number, 1)

    def test_an_empty_marking(self):
        desk = desk_with("table r: a number; key", "insert r 5", "keep v from r; want r.a")
        check_same(self, (desk.say("token v 0"), desk.say("after v 9 0"), desk.say("view v")), ("0", "-", "5"))

    def test_refused(self):
        desk = filled()
        desk.say("keep v from r; want r.a; order r.a")
        for command, error, told in (
                ("keep v from r; want r.a", NameTaken, {"value": "v"}), ("keep v from r; want r.a; distinct", NameTaken, {"value": "v"}),
                ("keep w from r; want r.a; distinct", NotServing, {}), ("keep w from r; want r.a; first 5", NotServing, {}), ("keep w from r; want r.a; groups; first 5", NotServing, {}),
                ("view w", UnknownName, {"value": "w"}), ("token w 0", UnknownName, {"value": "w"}), ("after w 1 0", UnknownName, {"value": "w"}),
                ("token v 3", InvalidCount, {"value": 3}), ("after v 1 1 1", InvalidToken, {"value": "1 1"}), ("after v 1 0 01", InvalidToken, {"value": "0 01"}),
                ("after v 1  0 1", InvalidToken, {"value": " 0 1"}), ("after v 1 0 1 ", InvalidToken, {"value": "0 1 "}), ("after v 1 0", InvalidToken, {"value": "0"})):
            check_error(self, error, told, desk.say, command)
        check_same(self, desk.store.names(), ["v"])
        desk.store.drop("v")
        check_error(self, UnknownName, {"value": "v"}, desk.say, "view v")

    def test_against_the_functions(self):
        dice, many = random.Random(372), 0
        while many < 15:
            catalog = random_catalog(dice)
            query = random_query(dice, catalog, ("none",))
            if query is not None:
                query = query.changed(first=None)
                desk = desk_with(*[table_text(catalog, table) for table in catalog.tables],
                                 *[index_text(catalog, table, name) for table in catalog.tables for name, _ in catalog.indexes_of(table)])
                check_same(self, desk.say(f"keep v {query_text(query)}"), "ok")
                fill(dice, desk)
                view = desk.store.view("v")
                self.assertEqual(view.plan, least_plan(catalog, query))
                self.check_view(desk, view)
                many += len(view) > 1

    def check_view(self, desk, view):
        wanted = view.wanted_rows()
        check_same(self, desk.say("view v"), lines(wanted))
        for position in range(len(view)):
            text = token_of(view, position)
            check_same(self, desk.say(f"token v {position}"), text)
            for count in (0, 1, 3, 1000):
                check_same(self, desk.say(f"after v {count} {text}"), lines([wanted[view.spot(row)] for row in page_after(view, text, count)]))


class Found(unittest.TestCase):
    def test_by_hand(self):
        desk = filled()
        check_same(self, desk.say("found r"), "\n".join(
            rule_text(rule) for rule in found_rules(desk.catalog.rules_of("r").columns, [row for _, row in desk.store.rows("r")])))
        desk = desk_with("table r: a number", "insert r 1")
        check_same(self, desk.say("found r"), "never a-\nnever a0")
        desk.say("insert r 1")
        check_same(self, desk.say("found r"), "never a-")
        desk.say("insert r 2")
        check_same(self, desk.say("found r"), "-")
        check_error(self, UnknownTable, {"value": "z"}, desk.say, "found z")

    def test_more_than_sixty_rows(self):
        desk = desk_with("table r: a number", *[f"insert r {number}" for number in range(60)])
        check_same(self, desk.say("found r"), "never a0")
        desk.say("insert r 60")
        check_error(self, TooMany, {"kind": "rows", "limit": 60}, desk.say, "found r")


class Commands(unittest.TestCase):
    def wrong(self, desk, command):
        check_error(self, InvalidCommand, {"value": command}, desk.say, command)

    def test_parts_missing_and_empty(self):
        desk = filled()
        desk.say("keep v from r; want r.a")
        for word in WORDS:
            for command in (word, word + " ", " " + word, word.upper() + " r", word + "s r", word + "\nr"):
                self.wrong(desk, command)
            if word not in ("table", "index", "plan", "answer"):
                self.wrong(desk, word + "  ")
        check_error(self, InvalidText, {"value": " "}, desk.say, "plan  ")
        for command in ("insert r", "insert r ", "insert  r 1,x", "insert R 1,x", "remove r", "remove r ", "remove r 0 ", "remove  r 0", "remove r x", "remove r 0x", "remove r +1",
                        "rows r s", "rows r ", "rows  r", "rows R", "rows key", "rows abcdefghi", "plan ", "answer ", "keep v", "keep v ", "keep  v from r; want r.a",
                        "keep up from r; want r.a", "view v v", "view v ", "view V", "token v", "token v ", "token v -1", "token v 0 0", "token v x", "token 0 v",
                        "after v", "after v 1", "after v 1 ", "after v x 0 1", "after v 01 0 1", "after v -1 0 1", "after 1 v 0", "found r s", "found ", "found down",
                        "", " ", "\n", "r", "drop v", "say rows r", "update r 0 1,x"):
            self.wrong(desk, command)

    def test_values_of_other_kinds(self):
        for desk in (Desk(), filled()):
            for value in odd_values():
                self.wrong(desk, value)

    def test_one_character_more_or_less(self):
        """A changed command is either no command, or it does the same as the functions say; nothing else is raised."""
        desk = filled()
        desk.say("keep v from r; want r.a; order r.a")
        expected = (InvalidCommand, InvalidText, InvalidToken, InvalidCount, InvalidRow, InUse, UnknownTable, UnknownName, UnknownPlace)
        for command in ("rows r", "remove r 7", "view v", "token v 0", "after v 1 0 1", "found r", "insert r z"):
            for other in edits(command, "0 rvz"):
                copied = Desk()
                copied._catalog, copied._store = desk.catalog, desk.store.clone()
                try:
                    self.assertIsInstance(copied.say(other), str)
                except expected:
                    if not other.startswith(("insert r ", "remove r ")):
                        self.assertEqual(copied.store, desk.store)

    def test_equal_calls_answer_alike(self):
        desk = filled()
        desk.say("keep v from r; want r.a; order r.a")
        for command in ("rows r", "rows s", f"plan {JOIN}", f"answer {JOIN}", "view v", "token v 1", "after v 1 0 -3", "found r", "found s"):
            check_same(self, desk.say(command), desk.say(command))

    def test_desks_are_independent(self):
        one, other = filled(), Desk()
        check_same(self, (other.catalog, other.store), (None, None))
        self.assertNotEqual(one, filled())
        self.assertEqual(one.store, filled().store)
        self.assertEqual(one.catalog.indexes_of("s"), [("by", Order([("a", "up"), ("c", "down")]))])


if __name__ == "__main__":
    unittest.main()
