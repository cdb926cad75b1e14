"""[4] over the whole program: a query is answered alike by every way, while rows come and go; and guarantees side by side."""

import random
import unittest

from pairsigns.choosing import Choice, foundation_of, least_sets
from pairsigns.desk import Desk
from pairsigns.errors import PairBroken, RuleBroken
from pairsigns.finding import found_rules, shortest_rules
from pairsigns.judging import follows
from pairsigns.pages import Paging, token_of
from pairsigns.papers import is_refusal, refusal_of
from pairsigns.planning import filling, least_plan, least_rules, serves
from pairsigns.plans import stream_in, work_of
from pairsigns.queries import is_answer, plain_output
from pairsigns.questions import ask
from pairsigns.reasons import is_reason, rests_on
from pairsigns.rules import Rules
from pairsigns.running import plan_output, run_plan
from pairsigns.stores import Store
from pairsigns.streams import Stream
from pairsigns.tables import Catalog
from pairsigns.texts import index_text, plan_text, query_text, read_index, read_query, read_table, table_text
from pairsigns.wishes import shapes_of
from pairsigns.worlds import database_of
from tests.plan_samples import DIRECTIONS, linked, random_database, random_rules, random_setting, references_to, sequences
from tests.samples import check_same, check_true
from tests.test_desk import lines
from tests.test_views import write_by_chance


def sorting_all(query):
    """A plan that sorts wherever a sort can stand, and reads tables as they lie."""
    tables = sequences(query)[0]
    plan = ("sort", tuple((reference, "up") for reference in references_to(query, tables[0])), ("heap", tables[0]))
    for at, table in list(enumerate(tables))[1:]:
        group = linked(query, tables[:at], table)[0]
        known = [reference for taken in tables[:at] for reference in references_to(query, taken)]
        one = next(reference for reference in known if reference in group)
        other = next(reference for reference in references_to(query, table) if reference in group)
        plan = ("merge", ((one, other, "up"),), ("sort", ((one, "up"),), plan), ("sort", ((other, "up"),), ("heap", table)))
    if query.runs == "none":
        plan = ("sort", query.order.entries, plan) if len(query.order) else plan
    else:
        plan = (query.runs, ("sort", tuple((reference, "up") for reference in query.wanted), plan))
        plan = ("sort", query.order.entries, plan) if len(query.order) else plan
    return plan if query.first is None else ("first", plan)


def desk_of(catalog):
    """A desk with the tables and indexes of a catalog, made by texts."""
    desk = Desk()
    for table in catalog.tables:
        desk.say(table_text(catalog, table))
    for table in catalog.tables:
        for name, _ in catalog.indexes_of(table):
            desk.say(index_text(catalog, table, name))
    return desk


def with_full_order(dice, query):
    """The query with an order by all that is wanted, so that it has one answer."""
    return query.changed(order=[(reference, dice.choice(DIRECTIONS)) for reference in dice.sample(query.wanted, len(query.wanted))])


def all_pages(view, count):
    paging, found = Paging(view, count), []
    page = paging.page()
    while page:
        found.extend(page)
        page = paging.page()
    return found


class AnsweredAlike(unittest.TestCase):
    def test_by_every_way_while_rows_come_and_go(self):
        dice, rows = random.Random(401), 0
        for _ in range(25):
            catalog, query = random_setting(dice, most_rules=dice.choice((0, 1, 3)))
            query = with_full_order(dice, query)
            desk = desk_of(catalog)
            self.assertEqual(desk.catalog, catalog)
            store, plain = desk.store, query.changed(runs="none", first=None)
            desk.say(f"keep v {query_text(plain)}")
            view = store.view("v")
            kept = store.keep("w", plain, sorting_all(plain))
            for _ in range(20):
                write_by_chance(dice, store)
                rows += self.check(desk, query)
                self.check(desk, plain)
                self.check_views(dice, desk, plain, (view, kept))
        self.assertGreater(rows, 150)

    def check(self, desk, query):
        """Plans of least work, plans that sort all and the desk answer a query alike."""
        store, catalog = desk.store, desk.catalog
        plans = [least_plan(catalog, query), sorting_all(query)]
        self.assertLessEqual(work_of(plans[0]), work_of(plans[1]))
        found = [plan_output(store, query, plan) for plan in plans]
        check_same(self, found[0], found[1])
        check_true(self, is_answer(store, query, found[0]))
        if query.first is None:
            check_same(self, sorted(found[0]), plain_output(store, query))
        check_same(self, desk.say(f"answer {query_text(query)}"), lines(found[0]))
        self.assertTrue(desk.say(f"plan {query_text(query)}").startswith(plan_text(plans[0])))
        return len(found[0])

    def check_views(self, dice, desk, query, views):
        wanted = plan_output(desk.store, query, views[0].plan)
        for view in views:
            check_same(self, view.wanted_rows(), wanted)
            rows = all_pages(view, dice.randint(1, 4))
            check_same(self, [wanted[view.spot(row)] for row in rows], wanted)
            check_same(self, rows, list(run_plan(desk.store, query, view.plan)))
        check_same(self, desk.say("view v"), lines(wanted))
        if wanted:
            check_same(self, desk.say(f"after v 1000 {token_of(views[0], 0)}"), lines(wanted[1:]))

    def test_clones_and_dropped_views(self):
        dice = random.Random(402)
        for _ in range(10):
            catalog, query = random_setting(dice, ("none",))
            query = with_full_order(dice, query.changed(first=None))
            store = Store(catalog)
            view = store.keep("v", query, least_plan(catalog, query))
            for _ in range(10):
                write_by_chance(dice, store)
            other = store.clone()
            store.drop("v")
            before = view.wanted_rows()
            for _ in range(10):
                write_by_chance(dice, store)
                write_by_chance(dice, other)
            check_same(self, view.wanted_rows(), before)
            check_same(self, other.view("v").wanted_rows(), plan_output(other, query, sorting_all(query)))


class SideBySide(unittest.TestCase):
    def test_sorts_answers_refusals_and_indexes(self):
        """A plan without sorts needs no index; a shape that is refused has no filling; a plan serves with its foundation alone."""
        dice = random.Random(403)
        for _ in range(40):
            catalog, query = random_setting(dice, ("none",))
            plan = least_plan(catalog, query)
            self.assertEqual(work_of(plan)[0] == 0, least_sets(catalog, query, []) == [()])
            self.assertEqual(work_of(plan)[0] == 0, least_rules(catalog, query, []) == ())
            check_same(self, Choice(catalog, [query], []).chosen, () if work_of(plan)[0] == 0 else None)
            for shape in dice.choices(list(shapes_of(catalog, query)), k=4):
                refusal = refusal_of(catalog, query, shape)
                self.assertEqual(refusal is None, filling(catalog, query, shape) is not None)
                if refusal is not None:
                    check_true(self, is_refusal(catalog, query, shape, refusal))
            self.check_foundation(catalog, query, plan)

    def check_foundation(self, catalog, query, plan):
        needed = foundation_of(catalog, query, plan)
        fewer = catalog
        for table in catalog.tables:
            fewer = fewer.with_rules(table, Rules(catalog.rules_of(table).columns, [rule for name, rule in needed if name == table]))
        check_true(self, serves(fewer, query, plan))
        check_same(self, foundation_of(fewer, query, plan), needed)
        question = ("sorted", query.order.entries)
        stream = Stream(catalog, query, stream_in(plan))
        answer = ask(stream, question)
        check_true(self, bool(answer))
        check_true(self, is_reason(stream, question, answer.reason))
        for why in rests_on(answer.reason):
            self.assertIn(why[0], ("rule", "room"))

    def test_a_no_is_shown_by_a_store(self):
        """The rows of a world that breaks a question can be written to a store as a batch."""
        dice, many = random.Random(404), 0
        for _ in range(40):
            catalog, query = random_setting(dice, ("none",))
            query = query.changed(first=None)
            plan = ("heap", query.tables[0])
            stream = Stream(catalog, query, plan)
            answer = ask(stream, ("single",))
            if not answer:
                many += 1
                database, rows = database_of(stream, answer.world)
                store = Store(catalog)
                writes = [("insert", table, row) for table in catalog.tables for _, row in database.rows(table)]
                check_same(self, store.write(writes), [place for table in catalog.tables for place, _ in database.rows(table)])
                self.assertEqual(store.rows(query.tables[0]), database.rows(query.tables[0]))
                check_same(self, list(run_plan(store, query, plan)), rows)
        self.assertGreater(many, 20)

    def test_rules_that_are_found_hold_in_a_table(self):
        """Rows are taken by a store with the rules that were found in them, and these rules follow from the shortest list."""
        dice, many = random.Random(405), 0
        for _ in range(60):
            catalog, _ = random_setting(dice, most_tables=1)
            database = random_database(dice, catalog)
            columns = catalog.rules_of("r").columns
            rows = [row for _, row in database.rows("r")][:60]
            found, shortest = found_rules(columns, rows), shortest_rules(columns, rows)
            if len(shortest) <= 8:
                rules = Rules(columns, shortest)
                many += len(found)
                for rule in found:
                    check_same(self, follows(rules, rule)[0], "yes")
                store = Store(Catalog([("r", rules, [])]))
                check_same(self, store.write([("insert", "r", row) for row in rows]), list(range(len(rows))))
        self.assertGreater(many, 60)

    def test_writes_are_refused_exactly_if_rules_would_be_broken(self):
        """One by one and as a batch, rows are taken by the same stores."""
        dice, seen = random.Random(406), {True: 0, False: 0}
        while min(seen.values()) < 20:
            catalog, _ = random_setting(dice, most_tables=1)
            columns = catalog.rules_of("r").columns
            catalog = catalog.with_rules("r", Rules(columns, random_rules(dice, columns, 1)))
            rows = [[dice.randint(0, 2) if kind == "number" else dice.choice("xy") for _, kind in columns] for _ in range(3)]
            one, other, refused = Store(catalog), Store(catalog), False
            for row in rows:
                try:
                    one.insert("r", row)
                except RuleBroken:
                    refused = True
            try:
                other.write([("insert", "r", row) for row in rows])
                self.assertFalse(refused)
                self.assertEqual(one, other)
            except PairBroken as error:
                self.assertTrue(refused)
                self.assertIn(error.rule, catalog.rules_of("r").rules)
                self.assertEqual(other, Store(catalog))
            seen[refused] += 1


class Texts(unittest.TestCase):
    def test_all_texts_of_a_setting_are_read_back(self):
        dice = random.Random(407)
        for _ in range(40):
            catalog, query = random_setting(dice)
            for table in catalog.tables:
                self.assertEqual(read_table(table_text(catalog, table)), (table, catalog.rules_of(table)))
                for name, order in catalog.indexes_of(table):
                    self.assertEqual(read_index(catalog, index_text(catalog, table, name)), (table, name, order))
            self.assertEqual(read_query(catalog, query_text(query)), query)
            self.assertEqual(desk_of(catalog).catalog, catalog)


if __name__ == "__main__":
    unittest.main()
