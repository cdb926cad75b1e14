"""[34] and [4]: markings, tokens, what is behind a token, and paging while rows come and go."""

import random
import unittest
from itertools import permutations

from pairsigns.errors import InvalidCount, InvalidToken
from pairsigns.pages import Paging, marking_of, page_after, token_of
from pairsigns.planning import least_plan, serves
from pairsigns.questions import ask
from pairsigns.rules import Rules
from pairsigns.signs import Order
from pairsigns.stores import Store
from pairsigns.streams import Stream
from pairsigns.tables import Catalog
from tests.plan_samples import catalog_of, list_of, query_of, random_setting, random_stream, sign, tables_in, value_in
from tests.samples import BIG, check_error, check_same, edits, odd_values
from tests.test_views import write_by_chance

READ = ("heap", "r")
BY = ("index", "r", "by")
PLAIN = query_of(("r",), wanted=("r.b", "r.a"), order=(("r.b", "up"),))
LETTERS = "abcdefghijklmnopqrstuvwxyz"


def filled(rules=None):
    store = Store(catalog_of(rules))
    for table, row in (("r", (1, 5, "x")), ("r", (2, 4, "")), ("r", (-3, 5, "z")), ("s", (5, 1)), ("s", (4, 2)), ("s", (5, 0))):
        store.insert(table, row)
    return store


def kept(rules=None, query=PLAIN, plan=BY):
    return filled(rules).keep("v", query, plan)


def text_of(value):
    return '""' if value == "" else str(value)


def token(number, values):
    return " ".join([str(number), *[text_of(value) for value in values]])


def is_token(view, kinds, text):
    """Whether this is a string of the form of the view's tokens, by [36]."""
    parts = text.split(" ")
    if parts[0] != str(view.number) or len(parts) != len(kinds) + 1:
        return False
    return all(is_value_text(kind, part) for kind, part in zip(kinds, parts[1:]))


def is_value_text(kind, text):
    if kind == "text":
        return text == '""' or 1 <= len(text) <= 12 and all(letter in LETTERS for letter in text)
    digits = text[1:] if text[:1] == "-" else text
    if not digits or any(digit not in "0123456789" for digit in digits) or (digits[0] == "0" and text != "0"):
        return False
    return kind == "number" or text[0] != "-"


class Markings(unittest.TestCase):
    def check(self, found, *entries):
        self.assertIs(type(found), Order)
        self.assertEqual(found, Order(entries))

    def test_examples(self):
        up_b, down_a, coming = ("r.b", "up"), ("r.a", "down"), ("r.coming", "up")
        self.check(marking_of(kept()), up_b, down_a, coming)
        self.check(marking_of(view=kept({"r": [("key", ("a",))]})), up_b, down_a)
        self.check(marking_of(self.one_row([("key", ("b",))])), up_b)
        self.check(marking_of(self.one_row([("key", ())])))
        self.check(marking_of(kept(query=query_of(("r",)), plan=READ)), coming)

    def one_row(self, rules):
        store = Store(catalog_of({"r": rules}))
        store.insert("r", (1, 5, "x"))
        return store.keep("v", PLAIN, BY)

    def test_filters(self):
        fixed = PLAIN.changed(filters=[("r.b", "=", 5)], order=())
        self.check(marking_of(kept({"r": [("key", ("a", "b"))]}, fixed)), ("r.b", "up"), ("r.a", "down"))
        self.check(marking_of(kept(query=PLAIN.changed(filters=[("r.b", ">", 5), ("r.b", "<", 6)]))))
        self.check(marking_of(kept({"r": [("key", ("a", "b"))]}, PLAIN.changed(filters=[("r.b", "=", 5), ("r.a", "=", 1)]))))

    def test_of_joins(self):
        query = query_of(("r", "s"), wanted=("r.a",))
        view = kept(query=query, plan=("seek", READ, "s", "bd", 1))
        self.check(marking_of(view), ("r.coming", "up"), ("s.b", "up"), ("s.d", "up"), ("s.coming", "up"))
        view = filled().clone().keep("w", query, ("sort", (("r.a", "up"),), ("seek", READ, "s", "bd", 1)))
        self.assertEqual(marking_of(view).columns[0], "r.a")

    def test_by_questions(self):
        dice, seen = random.Random(341), set()
        while len(seen) < 5:
            catalog, query = random_setting(dice, ("none",))
            query = query.changed(first=None)
            plan = random_stream(dice, catalog, query)
            if serves(catalog, query, plan):
                found = marking_of(Store(catalog).keep("v", query, plan))
                order = list_of(catalog, plan)
                stream = Stream(catalog, query, plan)
                many = next(many for many in range(len(order) + 1) if ask(stream, ("key", tuple(column for column, _ in order[:many]))))
                self.check(found, *order[:many])
                seen.add(many)


class Tokens(unittest.TestCase):
    def test_examples(self):
        view = kept()
        check_same(self, [token_of(view, position) for position in range(3)], ["0 4 2 1", "0 5 1 0", "0 5 -3 2"])
        store = filled({"r": [("key", ("c",))]})
        for _ in range(12):
            store.keep("v", PLAIN, BY)
            store.drop("v")
        view = store.keep("c", query_of(("r",), wanted=("r.c",), order=(("r.c", "up"),)), ("index", "r", "ca"))
        check_same(self, [token_of(view=view, position=position) for position in range(3)], ['12 ""', "12 x", "12 z"])

    def test_an_empty_marking(self):
        store = Store(catalog_of({"r": [("key", ())]}))
        view = store.keep("v", PLAIN, READ)
        check_same(self, page_after(view, "0", 5), [])
        store.insert("r", (1, 2, "x"))
        check_same(self, token_of(view, 0), "0")
        check_same(self, page_after(view, "0", 5), [])
        for text in ("", "1", "0 ", " 0", "0 1", "00", "-0", '0 ""'):
            check_error(self, InvalidToken, {"value": text}, page_after, view, text, 1)

    def test_wrong_positions(self):
        view = kept()
        for value in odd_values() + [3, -1]:
            if type(value) is not int or not 0 <= value < 3:
                check_error(self, InvalidCount, {"value": value}, token_of, view, value)
        check_error(self, InvalidCount, {"value": 0}, token_of, Store(catalog_of()).keep("v", PLAIN, BY), 0)

    def test_great_numbers(self):
        store = Store(catalog_of())
        view = store.keep("v", PLAIN, BY)
        for number in (BIG, -BIG, 0):
            store.insert("r", (number, number, "x" * 12))
        tokens = [token_of(view, position) for position in range(3)]
        check_same(self, tokens, [f"0 {-BIG} {-BIG} 1", "0 0 0 2", f"0 {BIG} {BIG} 0"])
        check_same(self, [page_after(view, text, 1) for text in tokens], [[(2,)], [(0,)], []])

    def test_of_every_view(self):
        dice = random.Random(342)
        for view, store in some_views(dice, 12):
            columns = marking_of(view).columns
            rows = view.rows()
            for position, row in enumerate(rows):
                values = [value_in(store, tables_in(view.plan), row, column) for column in columns]
                check_same(self, token_of(view, position), token(view.number, values))
            self.assertEqual(len({token_of(view, position) for position in range(len(rows))}), len(rows))


def some_views(dice, many):
    """Views with rows, of plans made by chance, with their stores."""
    found = []
    while len(found) < many:
        catalog, query = random_setting(dice, ("none",))
        query = query.changed(first=None)
        plan = random_stream(dice, catalog, query)
        if serves(catalog, query, plan):
            store = Store(catalog)
            for number in range(dice.randint(0, 2)):
                store.keep(LETTERS[number], query, plan)
            view = store.keep("v", query, plan)
            for _ in range(30):
                write_by_chance(dice, store)
            if len(view) > 0:
                found.append((view, store))
    return found


class AfterTokens(unittest.TestCase):
    def test_examples(self):
        view = kept()
        check_same(self, page_after(view, "0 4 2 1", 1), [(0,)])
        check_same(self, page_after(view, "0 4 2 1", 5), [(0,), (2,)])
        check_same(self, page_after(view, "0 4 2 1", 0), [])
        check_same(self, page_after(view, "0 5 -3 2", 5), [])
        check_same(self, page_after(count=BIG, text="0 -9 0 0", view=view), [(1,), (0,), (2,)])
        check_same(self, page_after(view, "0 5 1 1", 5), [(2,)])
        check_same(self, page_after(view, "0 5 2 77", 5), [(0,), (2,)])
        check_same(self, page_after(view, f"0 {BIG} 0 0", 5), [])

    def test_rows_that_are_gone_and_rows_that_are_alike(self):
        store = filled({"r": [("key", ("a",))]})
        view = store.keep("v", PLAIN, BY)
        text = token_of(view, 1)
        store.remove("r", 0)
        check_same(self, page_after(view, text, 9), [(2,)])
        check_same(self, store.insert("r", (1, 5, "new")), 3)
        check_same(self, token_of(view, 1), text)
        check_same(self, page_after(view, text, 9), [(2,)])
        store.insert("r", (0, 5, "new"))
        check_same(self, page_after(view, text, 9), [(4,), (2,)])

    def test_by_definition(self):
        dice, many = random.Random(343), 0
        for view, store in some_views(dice, 15):
            marking, kinds = marking_of(view), self.kinds(view, store)
            for _ in range(12):
                values = [dice.randint(0, 3) if kind != "text" else dice.choice(("x", "y", "xa", "")) for kind in kinds]
                if dice.random() < 0.5:
                    row = dice.choice(view.rows())
                    values = [value_in(store, tables_in(view.plan), row, column) for column in marking.columns]
                behind = [row for row in view.rows() if self.is_behind(view, store, marking, values, row)]
                count = dice.choice((0, 1, 2, 100))
                check_same(self, page_after(view, token(view.number, values), count), behind[:count])
                many += len(behind[:count])
        self.assertGreater(many, 100)

    def kinds(self, view, store):
        return ["coming" if column.endswith(".coming") else store.catalog.kind_of(column) for column in marking_of(view).columns]

    def is_behind(self, view, store, marking, values, row):
        for (column, direction), value in zip(marking.entries, values):
            found = sign(value, value_in(store, tables_in(view.plan), row, column))
            if found:
                return found == (-1 if direction == "up" else 1)
        return False

    def test_texts_with_one_character_more_less_or_another(self):
        store = filled()
        store.keep("u", PLAIN, BY)
        query = query_of(("r",), wanted=("r.c",), order=(("r.c", "up"),))
        view = store.keep("v", query, ("index", "r", "ca"))
        kinds, right = ["text", "coming"], 0
        for text in ('1 "" 1', "1 x 0", "1 z 12"):
            for other in [text] + edits(text, ' "-0129azA"\n'):
                if is_token(view, kinds, other):
                    right += 1
                    self.assertIsInstance(page_after(view, other, 1), list)
                else:
                    check_error(self, InvalidToken, {"value": other}, page_after, view, other, 1)
        self.assertGreater(right, 10)

    def test_numbers_in_texts(self):
        view = kept()
        for part in ("01", "-0", "00", "+1", "1.0", "1 ", " 1", "", "x", '""', "1,", "- 1", "--1", "1-", "0x1", "1_0", "\n1"):
            for at in range(3):
                parts = ["1", "1", "1"]
                parts[at] = part
                check_error(self, InvalidToken, {"value": " ".join(["0", *parts])}, page_after, view, " ".join(["0", *parts]), 1)
        check_error(self, InvalidToken, {"value": "0 1 1 -1"}, page_after, view, "0 1 1 -1", 1)
        check_same(self, page_after(view, "0 -1 -10 0", 1), [(1,)])

    def test_other_numbers_of_views(self):
        view = kept()
        for text in ("1 4 2 1", "00 4 2 1", "-0 4 2 1", "4 2 1", "0", "0 4 2", "0 4 2 1 1", "0  4 2 1", ""):
            check_error(self, InvalidToken, {"value": text}, page_after, view, text, 1)

    def test_values_of_other_kinds(self):
        view = kept()
        for value in odd_values():
            check_error(self, InvalidToken, {"value": value}, page_after, view, value, None)
            if type(value) is not int or value < 0:
                check_error(self, InvalidCount, {"value": value}, page_after, view, "0 4 2 1", value)

    def test_dropped_views(self):
        store = filled()
        view = store.keep("v", PLAIN, BY)
        text = token_of(view, 0)
        store.drop("v")
        for place in range(3):
            store.remove("r", place)
        check_same(self, [token_of(view, position) for position in range(3)], ["0 4 2 1", "0 5 1 0", "0 5 -3 2"])
        check_same(self, page_after(view, text, 5), [(0,), (2,)])
        self.assertEqual(marking_of(view).columns, ("r.b", "r.a", "r.coming"))
        again = store.keep("v", PLAIN, BY)
        check_error(self, InvalidToken, {"value": text}, page_after, again, text, 5)
        check_same(self, page_after(again, "1" + text[1:], 5), [])

    def test_tokens_of_clones(self):
        store = filled()
        view = store.keep("v", PLAIN, BY)
        other = store.clone()
        other.remove("r", 0)
        check_same(self, page_after(other.view("v"), token_of(view, 1), 5), [(2,)])


class Pagings(unittest.TestCase):
    def test_pages_of_every_size(self):
        view = kept()
        for count in range(1, 5):
            paging = Paging(view=view, count=count)
            found = [paging.page() for _ in range(5)]
            wanted = [view.rows()[at:at + count] for at in range(0, 3, count)]
            check_same(self, found, wanted + [[]] * (5 - len(wanted)))
        self.assertEqual(Paging(view, BIG).page(), view.rows())

    def test_wrong_counts(self):
        view = kept()
        for value in odd_values() + [0, -5]:
            if type(value) is not int or value < 1:
                check_error(self, InvalidCount, {"value": value}, Paging, view, value)

    def test_rows_come_and_go_between_two_pages(self):
        store = filled()
        view = store.keep("v", PLAIN, BY)
        paging = Paging(view, 1)
        check_same(self, paging.page(), [(1,)])
        store.remove("r", 1)
        store.insert("r", (0, 0, "x"))
        check_same(self, paging.page(), [(0,)])
        check_same(self, paging.page(), [(2,)])
        check_same(self, paging.page(), [])
        check_same(self, paging.page(), [])
        store.insert("r", (0, 9, "x"))
        check_same(self, paging.page(), [(4,)])
        check_same(self, paging.page(), [])

    def test_as_long_as_no_row_was_returned(self):
        store = Store(catalog_of())
        view = store.keep("v", PLAIN, BY)
        paging = Paging(view, 2)
        check_same(self, [paging.page(), paging.page()], [[], []])
        for number in (3, 1, 2):
            store.insert("r", (0, number, ""))
        check_same(self, [paging.page(), paging.page(), paging.page()], [[(1,), (2,)], [(0,)], []])

    def test_at_most_one_row(self):
        store = Store(catalog_of({"r": [("key", ())]}))
        paging = Paging(store.keep("v", PLAIN, READ), 3)
        store.insert("r", (1, 2, "x"))
        check_same(self, [paging.page(), paging.page()], [[(0,)], []])
        store.update("r", 0, (3, 4, "y"))
        check_same(self, paging.page(), [])

    def test_pagings_are_independent(self):
        store = filled()
        view = store.keep("v", PLAIN, BY)
        one, other = Paging(view, 2), Paging(view, 2)
        first = one.page()
        first.clear()
        check_same(self, other.page(), [(1,), (0,)])
        check_same(self, one.page(), [(2,)])
        self.assertNotEqual(one, other)
        store.drop("v")
        store.remove("r", 2)
        check_same(self, other.page(), [(2,)])

    def test_rows_that_stay_come_on_exactly_one_page(self):
        dice = random.Random(344)
        for view, store in some_views(dice, 25):
            paging, stayed, pages = Paging(view, dice.randint(1, 3)), view.rows(), []
            while True:
                pages.append(paging.page())
                if not pages[-1]:
                    break
                self.assertEqual(pages[-1], [row for row in view.rows() if row in pages[-1]])
                if len(pages) < 12:
                    for _ in range(dice.randint(0, 2)):
                        write_by_chance(dice, store)
                stayed = [row for row in stayed if row in view.rows()]
            found = [row for page in pages for row in page]
            self.assertEqual(len(set(found)), len(found))
            for row in stayed:
                self.assertEqual(found.count(row), 1)
            check_same(self, paging.page(), [])

    def test_pages_without_writes_are_the_rows(self):
        dice = random.Random(345)
        for view, _ in some_views(dice, 15):
            paging, found = Paging(view, dice.randint(1, 4)), []
            page = paging.page()
            while page:
                found += page
                page = paging.page()
            check_same(self, found, view.rows())


class OtherColumns(unittest.TestCase):
    def test_markings_of_each_length(self):
        """Keys of more and more columns: the marking ends with the last one of them."""
        columns = (("a", "number"), ("b", "text"), ("c", "number"))
        for chosen in permutations("abc"):
            for many in range(1, 4):
                key = tuple(sorted(chosen[:many]))
                catalog = Catalog([("r", Rules(columns, [("key", key)]), [])])
                query = query_of(("r",), catalog, equalities=[], wanted=("r.a", "r.b", "r.c"), order=tuple((f"r.{name}", "down") for name in chosen))
                view = Store(catalog).keep("v", query, least_plan(catalog, query))
                self.assertEqual(marking_of(view).entries[:many], tuple((f"r.{name}", "down") for name in chosen)[:many])
                self.assertEqual(len(marking_of(view)), many)


if __name__ == "__main__":
    unittest.main()
