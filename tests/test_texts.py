"""[36]: texts of tables, indexes, queries and plans; each is read back, and only they are read."""

import random
import re
import unittest

from pairsigns.errors import InvalidQuery, InvalidText, UnknownName, UnknownTable
from pairsigns.plans import check_plan
from pairsigns.queries import Query
from pairsigns.rules import Rules, rule_text
from pairsigns.signs import Order
from pairsigns.tables import Catalog
from pairsigns.texts import index_text, plan_text, query_text, read_index, read_query, read_table, table_text
from pairsigns.wishes import shapes_of
from tests.plan_samples import catalog_of, query_of, random_catalog, random_query, random_setting, random_whole_plan
from tests.rule_samples import FOUR, ONE, THREE, TWO, all_rules, names, some_rules, text_of
from tests.samples import BIG, check_error, check_same, edits, odd_values

REFERENCE = r"[a-z]{1,8}\.[a-z]{1,8}"
ENTRY = REFERENCE + "( down)?"
EQUALITY = f"{REFERENCE} = {REFERENCE}"
FILTER = f'{REFERENCE} (=|<|<=|>|>=) (""|[a-z]{{1,12}}|-?[1-9][0-9]*|0)'
RESERVED = ("coming", "down", "up", "none", "key", "never", "orders")


def listed(part):
    return f"{part}(, {part})*"


CONDITIONS = f"({listed(EQUALITY)}, {listed(FILTER)}|{listed(EQUALITY)}|{listed(FILTER)})"
QUERY = re.compile(f"from {listed('[a-z]{1,8}')}(; where {CONDITIONS})?; want {listed(REFERENCE)}(; distinct|; groups)?"
                   f"(; order {listed(ENTRY)})?(; first [1-9][0-9]*)?")
TABLE = re.compile(f"table [a-z]{{1,8}}: {listed('[a-z]{1,8} (number|text)')}(; .*)?")
INDEX = re.compile(f"index [a-z]{{1,8}} on [a-z]{{1,8}}: {listed('[a-z]{1,8}( down)?')}")
KNOWN = {}


def entries_of(text):
    return [(part.removesuffix(" down"), "down" if part.endswith(" down") else "up") for part in text.split(", ")]


def query_in(catalog, text):
    """The query with this text, or None, read by a pattern."""
    if not QUERY.fullmatch(text):
        return None
    parts = dict(part.split(" ", 1) if " " in part else (part, "") for part in text.split("; "))
    words = [part.split(" ") for part in parts.get("where", "").split(", ") if part]
    value = {True: lambda told: "" if told == '""' else told, False: int}
    filters = [(one, told, value[other[-1] in 'abcdefghijklmnopqrstuvwxyz"'](other)) for one, told, other in words if "." not in other]
    try:
        return Query(catalog, tuple(parts["from"].split(", ")), equalities=[(one, other) for one, _, other in words if "." in other], filters=filters,
                     wanted=tuple(parts["want"].split(", ")), runs="distinct" if "distinct" in parts else "groups" if "groups" in parts else "none",
                     order=entries_of(parts["order"]) if "order" in parts else (), first=int(parts["first"]) if "first" in parts else None)
    except InvalidQuery:
        return None


def is_name(text):
    return text not in RESERVED


def table_in(text):
    """The name and the Rules of the table with this text, or None, read by a pattern and a list of all rules."""
    if not TABLE.fullmatch(text):
        return None
    head, *rules = text.split("; ")
    name, told = head.removeprefix("table ").split(": ")
    columns = tuple(tuple(part.split(" ")) for part in told.split(", "))
    if not all(map(is_name, (name, *names(columns)))) or len(set(names(columns))) < len(columns) or len(columns) > 4:
        return None
    if columns not in KNOWN and rules:
        KNOWN[columns] = {text_of(rule): rule for rule in (all_rules(columns) if len(columns) < 3 else some_rules(columns))}
    if any(rule not in KNOWN[columns] for rule in rules) or len(set(rules)) < len(rules) or len(rules) > 8:
        return None
    return name, Rules(columns, [KNOWN[columns][rule] for rule in rules])


def index_in(catalog, text):
    if not INDEX.fullmatch(text):
        return None
    head, told = text.removeprefix("index ").split(": ")
    name, table = head.split(" on ")
    entries = entries_of(told)
    columns = [column for column, _ in entries]
    if not is_name(name) or table not in catalog.tables or len(set(columns)) < len(columns) or len(columns) > 3:
        return None
    if not set(columns) <= set(names(catalog.rules_of(table).columns)):
        return None
    return table, name, Order(entries)


class Tables(unittest.TestCase):
    def check(self, name, rules, text):
        catalog = Catalog([("other", Rules(ONE), []), (name, rules, [("by", [(rules.names()[0], "up")])])])
        check_same(self, table_text(catalog, name), text)
        check_same(self, table_text(table=name, catalog=catalog), text)
        found = read_table(text)
        self.assertIs(type(found), tuple)
        self.assertEqual(found, (name, rules))
        self.assertEqual(read_table(text=text), found)

    def test_examples(self):
        self.check("r", Rules((("a", "number"), ("b", "text"))), "table r: a number, b text")
        self.check("r", Rules((("a", "number"),), [("key", ("a",)), ("determines", (), "a")]), "table r: a number; key a; -> a")
        self.check("abcdefgh", Rules(TWO, [("key", ())]), "table abcdefgh: a number, b text; key")
        self.check("number", Rules((("text", "number"), ("number", "text")), [("determines", ("text",), "number")]),
                   "table number: text number, number text; text -> number")
        self.check("r", Rules(TWO, [("orders", (("coming", "up"),), (("a", "down"), ("b", "up"))), ("never", (("a", -1), ("b", 0), ("coming", 1)))]),
                   "table r: a number, b text; coming orders a down, b; never a- b0 coming+")

    def test_rules_of_each_kind(self):
        dice = random.Random(361)
        for columns in (ONE, TWO, THREE, FOUR):
            possible = some_rules(columns)
            for _ in range(15):
                rules = dice.sample(possible, dice.randint(0, 8) if len(possible) > 8 else 1)
                told = ", ".join(f"{name} {kind}" for name, kind in columns)
                self.check("r", Rules(columns, rules), "; ".join([f"table r: {told}", *[text_of(rule) for rule in rules]]))

    def test_eight_rules_and_nine(self):
        texts = [f"never {column}{sign} coming{turn}" for column in "ab" for sign in "-0+" for turn in "-+"]
        self.assertEqual(len(read_table("; ".join(["table r: a number, b text", *texts[:8]]))[1]), 8)
        self.wrong("; ".join(["table r: a number, b text", *texts[:9]]))

    def wrong(self, text):
        check_error(self, InvalidText, {"value": text}, read_table, text)

    def test_wrong_texts(self):
        for text in ("", "table", "table ", "table r", "table r:", "table r: ", "table r: a", "table r: a number;", "table r: a number; ", "table r: a number; ; key",
                     "table r: a number; key; key", "table r: a number; key b", "table r: a number; key a a", "table r: a number, a text", "table key: a number",
                     "table r: coming number", "table r: a Number", "table r: a number,b text", "table r : a number", "table r: a number text", "table r: a  number",
                     "Table r: a number", "table table r: a number", "r: a number", " table r: a number", "table r: a number\n", "table abcdefghi: a number",
                     "table r: a number; index by on r: a", "table r: key a; a number", "table r: a number, b text, c text, d text, e text", "table r: number a"):
            self.wrong(text)
            self.assertIsNone(table_in(text))

    def test_values_of_other_kinds(self):
        for value in odd_values():
            self.wrong(value)

    def test_one_character_more_less_or_another(self):
        right = 0
        for text in ("table r: a number, b text; key a; -> b", "table up: a number", "table s: a number; coming down orders a", "table t: b text, a number; b a -> a",
                     "table r: a number; never a- coming+; a orders coming down"):
            for other in edits(text, "abdknoxy ,;:>.-+0A\n"):
                wanted = table_in(other)
                if wanted is None:
                    self.wrong(other)
                else:
                    right += 1
                    self.assertEqual(read_table(other), wanted)
        self.assertGreater(right, 30)

    def test_parts_exchanged_doubled_and_left_out(self):
        text = "table r: a number, b text; key a; a -> b; never b0"
        parts = text.split("; ")
        for at in range(len(parts)):
            for other in (parts[:at] + parts[at + 1:], parts[:at] + parts[at:at + 1] + parts[at:], parts[:at] + parts[at:at + 2][::-1] + parts[at + 2:],
                          parts[:at] + [""] + parts[at:]):
                joined = "; ".join(other)
                wanted = table_in(joined)
                if wanted is None:
                    self.wrong(joined)
                else:
                    self.assertEqual(read_table(joined), wanted)

    def test_unknown_tables(self):
        for value in odd_values() + ["z"]:
            check_error(self, UnknownTable, {"value": value}, table_text, catalog_of(), value)
            check_error(self, UnknownTable, {"value": value}, index_text, catalog_of(), value, None)


class Indexes(unittest.TestCase):
    def test_examples(self):
        catalog = catalog_of()
        check_same(self, index_text(catalog, "r", "by"), "index by on r: b, a down")
        check_same(self, index_text(name="de", table="t", catalog=catalog), "index de on t: d down, e")
        found = read_index(catalog, "index on on r: c, b down, a")
        self.assertIs(type(found), tuple)
        self.assertEqual(found, ("r", "on", Order([("c", "up"), ("b", "down"), ("a", "up")])))

    def test_each_is_read_back(self):
        dice = random.Random(362)
        for _ in range(40):
            catalog = random_catalog(dice)
            for table in catalog.tables:
                for name, order in catalog.indexes_of(table):
                    text = index_text(catalog, table, name)
                    check_same(self, text, f"index {name} on {table}: {order}")
                    self.assertEqual(read_index(text=text, catalog=catalog), (table, name, order))

    def test_names_that_are_taken_and_full_tables(self):
        catalog = catalog_of().with_index("r", "cb", [("c", "down")])
        self.assertEqual(read_index(catalog, "index by on r: a"), ("r", "by", Order([("a", "up")])))
        self.assertEqual(read_index(catalog, "index new on r: a"), ("r", "new", Order([("a", "up")])))

    def wrong(self, text):
        check_error(self, InvalidText, {"value": text}, read_index, catalog_of(), text)

    def test_wrong_texts(self):
        for text in ("", "index", "index by on r:", "index by on r: ", "index by on r", "index by on z: a", "index by on r: z", "index by on r: none", "index by on r: a, a down",
                     "index by on r: coming", "index by on s: b, d, b", "index key on r: a", "index abcdefghi on r: a", "index by on r: a,b", "index by on r: a up",
                     "index by on r: a down down", "index by  on r: a", "by on r: a", "index index by on r: a", "index by on r: r.a", "index by on r: a, b, c, a",
                     "index by: a on r", "index r on by: a", "index by on r: a; key a", "Index by on r: a", "index by on r: a\n"):
            self.wrong(text)
            self.assertIsNone(index_in(catalog_of(), text))
        for value in odd_values():
            self.wrong(value)
            check_error(self, UnknownName, {"value": value}, index_text, catalog_of(), "r", value)
        check_error(self, UnknownName, {"value": "by"}, index_text, catalog_of(), "s", "by")

    def test_one_character_more_less_or_another(self):
        right = 0
        for text in ("index by on r: b, a down", "index x on s: d"):
            for other in edits(text, "abcdnorsxy ,:;.A\n"):
                wanted = index_in(catalog_of(), other)
                if wanted is None:
                    self.wrong(other)
                else:
                    right += 1
                    self.assertEqual(read_index(catalog_of(), other), wanted)
        self.assertGreater(right, 30)


class Queries(unittest.TestCase):
    catalog = Catalog([("r", Rules((("a", "number"), ("b", "number"), ("c", "text"))), []), ("s", Rules((("b", "number"), ("d", "number"))), []),
                       ("from", Rules((("want", "text"), ("first", "number"))), [])])

    def check(self, text, tables, **parts):
        query = Query(self.catalog, tables, **parts)
        check_same(self, query_text(query), text)
        check_same(self, query_text(query=query), text)
        self.assertEqual(read_query(self.catalog, text), query)
        self.assertEqual(read_query(text=text, catalog=self.catalog), query)

    def test_with_and_without_each_part(self):
        self.check("from r; want r.a", ("r",), wanted=("r.a",))
        self.check("from r; where r.c = abc; want r.a, r.c", ("r",), filters=[("r.c", "=", "abc")], wanted=("r.a", "r.c"))
        self.check('from r; where r.c = "", r.a > -5; want r.a', ("r",), filters=[("r.c", "=", ""), ("r.a", ">", -5)], wanted=("r.a",))
        self.check("from r, s; where r.b = s.b; want r.a; distinct", ("r", "s"), equalities=[("r.b", "s.b")], wanted=("r.a",), runs="distinct")
        self.check("from r; want r.a; groups", ("r",), wanted=("r.a",), runs="groups")
        self.check("from r; want r.a; order r.a down", ("r",), wanted=("r.a",), order=[("r.a", "down")])
        self.check("from r; want r.a; first 10", ("r",), wanted=("r.a",), first=10)
        self.check("from r, s; where r.a = s.b, s.d = r.b, r.a <= 5, r.b = 0, s.d < 10, s.d >= -10; want r.a, s.b; groups; order r.a, s.b down; first 1000", ("r", "s"),
                   equalities=[("r.a", "s.b"), ("s.d", "r.b")], filters=[("r.a", "<=", 5), ("r.b", "=", 0), ("s.d", "<", 10), ("s.d", ">=", -10)],
                   wanted=("r.a", "s.b"), runs="groups", order=(("r.a", "up"), ("s.b", "down")), first=1000)
        self.check("from from; where from.want = want, from.first = 7; want from.want; order from.want; first 1", ("from",), filters=[("from.want", "=", "want"),
                   ("from.first", "=", 7)], wanted=("from.want",), order=(("from.want", "up"),), first=1)
        self.check(f"from r; where r.a < {BIG}, r.b > {-BIG}; want r.c", ("r",), filters=[("r.a", "<", BIG), ("r.b", ">", -BIG)], wanted=("r.c",))

    def test_words_as_texts(self):
        for word in ("down", "up", "none", "key", "distinct", "coming", "abcdefghijkl"):
            self.check(f"from r; where r.c = {word}; want r.a", ("r",), filters=[("r.c", "=", word)], wanted=("r.a",))

    def test_each_is_read_back(self):
        dice, many = random.Random(363), 0
        while many < 150:
            catalog = random_catalog(dice)
            query = random_query(dice, catalog)
            if query is not None:
                many += 1
                text = query_text(query)
                self.assertEqual(query_in(catalog, text), query)
                self.assertEqual(read_query(catalog, text), query)

    def wrong(self, text):
        check_error(self, InvalidText, {"value": text}, read_query, self.catalog, text)

    def test_wrong_texts(self):
        for text in ("", "from r", "from ; want r.a", "from r; want ", "from r;want r.a", "want r.a; from r", "from r; want r.a;", "from r; want r.a; ", "from r; ; want r.a",
                     "from r; where ; want r.a", "from r; want r.a; none", "from r; want r.a; order none", "from r; want r.a; order ", "from r; want r.a; first 0",
                     "from r; want r.a; first 1001", "from r; want r.a; first 01", "from r; want r.a; first -1", "from r; want r.a; first ten", "from r; want r.a; first",
                     "from r; want r.a; first ", "from r; want r.a; distinct; groups", "from r; want r.a; distinct; distinct", "from r; want r.a; distinct ", "from z; want z.a",
                     "from r; want r.z", "from r, s; want r.a", "from r, r; want r.a", "from r; want r.a, r.a", "from r; want a", "from r; where r.a = 05; want r.a",
                     "from r; where r.a = -0; want r.a", "from r; where r.a = +5; want r.a", 'from r; where r.a = ""; want r.a', "from r; where r.c = 5; want r.a",
                     "from r; where r.c < x; want r.a", "from r; where r.a <= r.b; want r.a", "from r; where r.a = r.a; want r.a", "from r; where r.a = r.c; want r.a",
                     "from r; where r.a =5; want r.a", "from r; where r.a = 5, r.a = r.b; want r.a", "from r; where r.a = 5 6; want r.a", "from r; where r.c = ; want r.a",
                     "from r; where 5 = r.a; want r.a", "from r; where r.a == 5; want r.a", "from r; want r.a; order r.b", "from r; want r.a; order r.a, r.a down",
                     "from r; want r.a; order r.a up", "from r; want r.a; first 10; order r.a", "from r; want r.a; order r.a; distinct", "from r; where r.c = abcdefghijklm; want r.a",
                     "from r; want r.a; where r.a = 5", "from  r; want r.a", "From r; want r.a", "from r; want r.a\n", "from r; want r.a; from r", "from r; want r.a; order r.a  down"):
            self.wrong(text)
            self.assertIsNone(query_in(self.catalog, text), text)
        for value in odd_values():
            self.wrong(value)

    def test_queries_of_other_catalogs(self):
        for catalog in (Catalog([("r", Rules(ONE), [])]), Catalog([("q", Rules((("b", "number"),)), [])])):
            check_error(self, InvalidText, {"value": "from r; want r.b"}, read_query, catalog, "from r; want r.b")

    def check_texts(self, texts):
        right = 0
        for text in texts:
            wanted = query_in(self.catalog, text)
            if wanted is None:
                self.wrong(text)
            else:
                right += 1
                self.assertEqual(read_query(self.catalog, text), wanted)
                check_same(self, query_text(wanted), text)
        return right

    def test_one_character_more_less_or_another(self):
        right = 0
        for text in ("from r, s; where r.a = s.b, r.c = x; want r.a, s.b; distinct; order r.a, s.b down; first 10",
                     'from r; where r.a <= 5, r.b > -20, r.c = ""; want r.c; groups; first 9'):
            right += self.check_texts(edits(text, 'abcrs019 ,;.<>=-"x\n'))
        self.assertGreater(right, 50)

    def test_parts_exchanged_doubled_and_left_out(self):
        right = 0
        for text in ("from r, s; where r.a = s.b, r.c = x; want r.a, s.b; distinct; order r.a, s.b down; first 10", "from r; where r.a <= 5, r.b > 2, r.c = y; want r.c, r.a"):
            for mark in ("; ", ", ", " "):
                parts = text.split(mark)
                for at in range(len(parts)):
                    right += self.check_texts([mark.join(other) for other in (
                        parts[:at] + parts[at + 1:], parts[:at] + parts[at:at + 1] + parts[at:], parts[:at] + parts[at:at + 2][::-1] + parts[at + 2:],
                        parts[:at] + [""] + parts[at:])])
        self.assertGreater(right, 10)


class Plans(unittest.TestCase):
    def check(self, plan, text):
        check_same(self, plan_text(plan), text)
        check_same(self, plan_text(plan=plan), text)

    def test_examples(self):
        read, by = ("heap", "r"), ("index", "r", "by")
        self.check(read, "heap(r)")
        self.check(by, "index(r, by)")
        self.check(("sort", (("r.a", "up"), ("r.b", "down")), read), "sort(r.a, r.b down; heap(r))")
        self.check(("sort", (), by), "sort(none; index(r, by))")
        self.check(("merge", (("r.a", "s.b", "up"), ("r.c", "s.d", "down")), read, ("heap", "s")), "merge(r.a = s.b, r.c = s.d down; heap(r); heap(s))")
        self.check(("seek", by, "s", "by", 2), "seek(index(r, by); s, by, 2)")
        self.check(("distinct", read), "distinct(heap(r))")
        self.check(("groups", read), "groups(heap(r))")
        self.check(("first", ("sort", (("r.a", "up"),), ("groups", read))), "first(sort(r.a; groups(heap(r))))")

    def test_plans_that_no_query_has(self):
        self.check(("sort", (("x", "down"),), ("first", ("heap", "none"))), "sort(x down; first(heap(none)))")
        self.check(("distinct", ("groups", ("distinct", ("heap", "z")))), "distinct(groups(distinct(heap(z))))")
        self.check(("merge", (("z.z", "z.z", "down"),), ("first", ("heap", "z")), ("sort", (), ("heap", "z"))), "merge(z.z = z.z down; first(heap(z)); sort(none; heap(z)))")
        self.check(("seek", ("groups", ("heap", "z")), "z", "z", 77), "seek(groups(heap(z)); z, z, 77)")

    def test_different_plans_have_different_texts(self):
        dice, texts = random.Random(364), {}
        for _ in range(60):
            catalog, query = random_setting(dice)
            for plan in [random_whole_plan(dice, catalog, query), *list(shapes_of(catalog, query))[:20]]:
                text = self.text(plan)
                self.check(plan, text)
                self.assertEqual(texts.setdefault(text, plan), plan)
        self.assertIsNone(check_plan(catalog_of(), query_of(("r",)), ("heap", "r")))

    def text(self, plan):
        """The text of a plan by its form alone."""
        def order(entries):
            return ", ".join(column if direction == "up" else column + " down" for column, direction in entries) or "none"
        inside = [self.text(part) for part in plan if isinstance(part, tuple) and part and isinstance(part[0], str)]
        word = plan[0]
        if word in ("heap", "index"):
            return f"{word}({', '.join(plan[1:])})"
        if word == "sort":
            return f"sort({order(plan[1])}; {inside[0]})"
        if word == "merge":
            pairs = order([(f"{one} = {other}", direction) for one, other, direction in plan[1]])
            return f"merge({pairs}; {'; '.join(inside)})"
        return f"seek({inside[0]}; {plan[2]}, {plan[3]}, {plan[4]})" if word == "seek" else f"{word}({inside[0]})"


class Unchanged(unittest.TestCase):
    def test_what_is_read_is_independent(self):
        name, rules = read_table("table r: a number; key a")
        other = rules.with_rule(("key", ()))
        self.assertEqual([rule_text(rule) for rule in other.rules], ["key a", "key"])
        self.assertEqual(read_table("table r: a number; key a"), (name, rules))


if __name__ == "__main__":
    unittest.main()
