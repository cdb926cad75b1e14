"""[30], [31] and [4]: offered indexes and the choice of the fewest, orders that are the same sort, foundations of plans."""

import copy
import random
import unittest
from itertools import combinations, permutations, product

from pairsigns.choosing import Choice, folded_orders, foundation_of, least_sets, same_sort
from pairsigns.errors import InvalidCount, InvalidOffer, InvalidOrder, NotServing, TooMany, Unlike
from pairsigns.planning import least_plan, serves
from pairsigns.plans import work_of
from pairsigns.rules import Rules
from pairsigns.signs import Order
from pairsigns.tables import Catalog, Database
from tests.plan_samples import DIRECTIONS, catalog_of, query_of, random_query, random_rules, random_setting, random_whole_plan
from tests.rule_samples import ALL_COLUMNS, ONE, TWO, names, orders_over, rows_break, rows_with, some_rules
from tests.samples import check_error, check_same, odd_values, row_vectors

ALL_RUNS = ("none", "none", "distinct", "groups")
READ = ("heap", "r")
ORDER = (("r.a", "down"),)
KEY = ("key", ("a",))
RISING = ("orders", (("coming", "up"),), (("b", "up"),))


def bare(rules=None):
    return catalog_of(rules, {"r": [], "s": [], "t": []})


def part_sets(many):
    """All sets of so many positions."""
    return [positions for size in range(many + 1) for positions in combinations(range(many), size)]


def with_indexes(catalog, offers):
    for number, (table, order) in enumerate(offers):
        catalog = catalog.with_index(table, "z" + "abcdefgh"[number], order)
    return catalog


def suffices(catalog, query, offered, positions):
    added = with_indexes(catalog, [offered[position] for position in positions])
    return work_of(least_plan(added, query))[0] == 0


def tried(catalog, query, offered):
    """All sets that suffice, found by trying all sets."""
    return [positions for positions in part_sets(len(offered)) if suffices(catalog, query, offered, positions)]


def least_of(sets):
    return sorted(one for one in sets if not any(set(other) < set(one) for other in sets))


def likely_columns(query, table):
    """The columns of a table that the query's order or its equalities name, with directions."""
    asked = [*query.order.entries, *[(reference, "up") for pair in query.equalities for reference in pair]]
    found = {reference.split(".")[1]: direction for reference, direction in asked[::-1] if reference.split(".")[0] == table}
    return list(found.items())[::-1]


def random_offers(dice, catalog, most, query):
    """Offers for tables that have room for more indexes, half of them by what the query asks for."""
    room = {table: 3 - len(catalog.indexes_of(table)) for table in catalog.tables}
    offers = []
    for _ in range(dice.randint(0, most)):
        table = dice.choice([table for table in room])
        if room[table]:
            room[table] -= 1
            columns = names(catalog.rules_of(table).columns)
            chosen = dice.sample(columns, dice.randint(1, min(3, len(columns))))
            order = [(column, dice.choice(DIRECTIONS)) for column in chosen]
            if dice.random() < 0.5 and table in query.tables:
                order = likely_columns(query, table)[:3] or order
            offers.append((table, dice.choice((order, tuple(order), Order(order)))))
    return offers


class LeastSets(unittest.TestCase):
    offers = [("r", (("b", "up"),)), ("s", [("b", "up"), ("d", "up")]), ("r", Order([("a", "down")])), ("s", (("d", "up"),))]

    def test_examples(self):
        two = query_of(("r", "s"))
        check_same(self, least_sets(bare(), two, self.offers), [(0,), (1,)])
        check_same(self, least_sets(bare(), two, []), [])
        check_same(self, least_sets(bare(), query_of(("r",)), self.offers), [()])
        check_same(self, least_sets(bare(), query_of(("r",)), []), [()])
        check_same(self, least_sets(bare(), query_of(("r",), order=ORDER), self.offers), [(2,)])
        check_same(self, least_sets(bare(), query_of(("r",), order=ORDER, first=3), self.offers), [(2,)])
        check_same(self, least_sets(bare(), query_of(("r", "s"), order=ORDER), self.offers), [(1, 2)])
        check_same(self, least_sets(bare(), query_of(("r", "s"), order=ORDER), self.offers[:2] + self.offers[3:]), [])
        check_same(self, least_sets(bare(), query_of(("r",), wanted=("r.a",), runs="distinct"), tuple(self.offers)), [(2,)])
        check_same(self, least_sets(bare(), query_of(("r",), wanted=("r.b",), runs="groups", order=(("r.b", "down"),)), self.offers), [])
        check_same(self, least_sets(bare({"r": [("key", ())]}), query_of(("r",), order=ORDER), self.offers), [()])
        check_same(self, least_sets(offered=self.offers, query=two, catalog=bare()), [(0,), (1,)])

    def test_returned_lists_are_new(self):
        rules, orders = Rules(TWO), [[("a", "up")], [("b", "up")]]
        catalog, plan = bare({"r": [RISING]}), READ
        query = query_of(("r",), wanted=("r.b",), order=(("r.b", "up"),))
        for call in (lambda: least_sets(bare(), query_of(("r", "s")), self.offers), lambda: folded_orders(rules, orders), lambda: foundation_of(catalog, query, plan)):
            kept = call()
            call().clear()
            check_same(self, call(), kept)
            self.assertTrue(kept)

    def test_two_offers_that_are_the_same(self):
        offers = [("r", ORDER_OF_A), ("t", (("d", "up"),)), ("r", ORDER_OF_A), ("r", (("a", "down"), ("c", "up")))]
        check_same(self, least_sets(bare(), query_of(("r",), order=ORDER), offers), [(0,), (2,), (3,)])

    def test_indexes_of_the_catalog_are_free(self):
        catalog = bare().with_index("r", "ib", ORDER_OF_A)
        check_same(self, least_sets(catalog, query_of(("r",), order=ORDER), [("r", ORDER_OF_A)]), [()])
        check_same(self, least_sets(catalog, query_of(("r", "s"), order=ORDER), self.offers[:2]), [(1,)])

    def test_against_a_trial_of_all_sets(self):
        dice, seen = random.Random(301), {}
        while len(seen) < 4 or min(seen.values()) < 2:
            catalog, query = random_setting(dice, ALL_RUNS, most_rules=dice.choice((0, 1, 3)))
            offers = random_offers(dice, catalog, 5, query)
            kept = copy.deepcopy(offers)
            wanted = least_of(tried(catalog, query, offers))
            check_same(self, least_sets(catalog, query, offers), wanted)
            check_same(self, least_sets(catalog, query, offers), wanted)
            self.assertEqual(offers, kept)
            kind = "none" if not wanted else min(2, max(len(positions) for positions in wanted))
            seen[kind] = seen.get(kind, 0) + 1

    def test_eight_offers_with_three_for_a_table(self):
        dice, found = random.Random(302), 0
        for _ in range(2):
            catalog, query = random_setting(dice, ("none",))
            while len(catalog.tables) < 3 or any(catalog.indexes_of(table) for table in catalog.tables):
                catalog, query = random_setting(dice, ("none",))
            offers = []
            while len(offers) < 8:
                offers = random_offers(dice, catalog, 40, query)
            offers = offers[:8]
            wanted = least_of(tried(catalog, query, offers))
            check_same(self, least_sets(catalog, query, offers), wanted)
            found += len(wanted)
        self.assertGreater(found, 0)


ORDER_OF_A = (("a", "down"),)


class WrongOffers(unittest.TestCase):
    def wrong(self, offered, position, catalog=None):
        catalog = catalog or bare()
        check_error(self, InvalidOffer, {"position": position}, least_sets, catalog, query_of(("r", "s")), offered)
        check_error(self, InvalidOffer, {"position": position}, Choice, catalog, [query_of(("r", "s"))], offered)
        check_error(self, InvalidOffer, {"position": position}, Choice, catalog, [], offered)

    def test_parts(self):
        good = [("r", (("b", "up"),)), ("s", (("b", "up"),))]
        for offer in (("z", ORDER_OF_A), ("", ORDER_OF_A), ("r", ()), ("r", []), ("r", Order()), ("r", (("z", "up"),)), ("r", (("r.a", "up"),)),
                      ("r", (("coming", "up"),)), ("r", (("a", "up"), ("a", "down"))), ("r", (("a", "left"),)), ("r", (["a", "up"],)), ("r", "a"),
                      ("t", (("a", "up"),)), ("r", (("a", "up"), ("b", "up"), ("c", "up"), ("d", "up"))), ["r", ORDER_OF_A], ("r",), ("r", ORDER_OF_A, 1), ()):
            self.wrong(good + [offer], 2)
            self.wrong(good + [offer, None], 2)
            self.wrong([offer] + good, 0)
        self.assertEqual(least_sets(bare(), query_of(("r",)), good + [("t", (("d", "up"), ("e", "down")))]), [()])

    def test_values_of_other_kinds(self):
        for value in odd_values():
            if not isinstance(value, (list, tuple)):
                self.wrong(value, -1)
            self.wrong([("r", ORDER_OF_A), value], 1)
            self.wrong([(value, ORDER_OF_A)], 0)
            if value != Order([("a", "up")]) and value not in ([("a", "up")], (("a", "up"),)):
                self.wrong([("r", value)], 0)

    def test_eight_offers_and_nine(self):
        offers = [(table, ((column, "up"),)) for table, column in (("r", "a"), ("r", "b"), ("r", "c"), ("s", "b"), ("s", "d"), ("s", "b"), ("t", "d"), ("t", "e"))]
        check_same(self, least_sets(bare(), query_of(("r",)), offers), [()])
        self.wrong(offers + [("t", (("d", "up"),))], -1)
        self.wrong([None] * 9, -1)

    def test_three_for_a_table_with_those_of_the_catalog(self):
        offers = [("r", ((column, "up"),)) for column in "abc"]
        self.assertEqual(least_sets(bare(), query_of(("r",)), offers), [()])
        self.wrong(offers + offers[:1], 3)
        catalog = bare().with_index("r", "by", ORDER_OF_A)
        self.assertEqual(least_sets(catalog, query_of(("r",)), offers[:2] + [("s", (("b", "up"),))]), [()])
        self.wrong(offers, 2, catalog)
        self.wrong([("s", (("b", "up"),)), *offers, None], 3, catalog)
        full = catalog.with_index("r", "bz", ORDER_OF_A).with_index("r", "ca", ORDER_OF_A)
        self.wrong(offers[:1], 0, full)

    def test_which_error_comes_first(self):
        other = Catalog([("r", Rules(ONE), [])])
        check_error(self, Unlike, {}, least_sets, other, query_of(), None)
        check_error(self, Unlike, {}, Choice, other, [query_of()], None)
        check_error(self, Unlike, {}, Choice, bare(), [query_of(("r",)), query_of(("r",), Catalog([("r", Rules(TWO), [])]), equalities=[])], None)
        check_error(self, TooMany, {"kind": "queries", "limit": 6}, Choice, other, [query_of()] * 7, None)
        check_error(self, InvalidOffer, {"position": -1}, Choice, bare(), [query_of()] * 6, None)


class Choices(unittest.TestCase):
    def check(self, catalog, queries, offers):
        """The choice, and all that it says, held against a trial of all sets."""
        kept = copy.deepcopy(offers)
        choice = Choice(catalog, queries, offers)
        self.assertEqual(offers, kept)
        sets = part_sets(len(offers))
        table = {(number, positions): suffices(catalog, query, offers, positions) for number, query in enumerate(queries) for positions in sets}

        def failed(positions):
            return next((number for number in range(len(queries)) if not table[number, positions]), None)

        right = [positions for positions in sets if failed(positions) is None]
        wanted = min(right, key=lambda positions: (len(positions), positions)) if right else None
        check_same(self, choice.chosen, wanted)
        failing = [positions for positions in sets if failed(positions) is not None]
        greatest = sorted((one, failed(one)) for one in failing if not any(set(one) < set(other) for other in failing))
        check_same(self, choice.failing(), greatest)
        for position in [*range(-1, len(offers) + 1), True, False, None, "0", (0,)]:
            if type(position) is int and position in (wanted or ()):
                fewer = tuple(other for other in wanted if other != position)
                check_same(self, choice.needed_by(position), failed(fewer))
            else:
                check_error(self, InvalidCount, {"value": position}, choice.needed_by, position)
        self.check_extended(catalog, queries, offers, choice)
        return choice

    def check_extended(self, catalog, queries, offers, choice):
        wanted = catalog
        for position in choice.chosen or ():
            table, order = offers[position]
            taken = [name for name, _ in wanted.indexes_of(table)]
            wanted = wanted.with_index(table, next("i" + letter for letter in "abcd" if "i" + letter not in taken), order)
        self.assertEqual(choice.extended(), wanted)
        self.assertEqual(choice.extended(), choice.extended())
        if choice.chosen is not None:
            for query in queries:
                self.assertEqual(work_of(least_plan(choice.extended(), query))[0], 0)

    def test_examples(self):
        offers = LeastSets.offers
        down = query_of(("r",), order=ORDER)
        choice = self.check(bare(), [query_of(("r", "s")), down], offers)
        check_same(self, choice.chosen, (0, 2))
        check_same(self, [choice.needed_by(0), choice.needed_by(2)], [0, 1])
        check_same(self, choice.failing(), [((0, 1, 3), 1), ((2, 3), 0)])
        self.assertEqual(choice.extended().indexes_of("r"), [("ia", Order([("b", "up")])), ("ib", Order([("a", "down")]))])
        check_same(self, self.check(bare(), [down, query_of(("r", "s"), order=ORDER)], offers).chosen, (1, 2))
        check_same(self, self.check(bare(), [down], offers[:2]).chosen, None)
        check_same(self, self.check(bare(), [query_of(("r",))], offers).chosen, ())

    def test_no_query_and_no_offer(self):
        choice = self.check(bare(), [], [])
        check_same(self, (choice.chosen, choice.failing()), ((), []))
        choice = self.check(bare(), [], LeastSets.offers)
        check_same(self, (choice.chosen, choice.failing()), ((), []))
        choice = self.check(bare(), [query_of(("r",), order=ORDER)], [])
        check_same(self, (choice.chosen, choice.failing()), (None, [((), 0)]))
        self.assertEqual(choice.extended(), bare())

    def test_the_first_of_the_smallest(self):
        offers = [("r", (("a", "up"),)), ("r", (("a", "down"), ("b", "up"))), ("r", ORDER_OF_A)]
        check_same(self, self.check(bare(), [query_of(("r",), order=ORDER)], offers).chosen, (1,))
        check_same(self, self.check(bare(), [query_of(("r",), order=ORDER)], offers[::-1]).chosen, (0,))

    def test_names_that_are_taken(self):
        catalog = bare().with_index("r", "ia", [("c", "up")]).with_index("s", "ib", [("d", "up")])
        queries = [query_of(("r",), order=ORDER), query_of(("s",), wanted=("s.d", "s.b"), order=(("s.d", "down"),)),
                   query_of(("s",), wanted=("s.b",), order=(("s.b", "down"),))]
        offers = [("r", ORDER_OF_A), ("s", (("d", "down"),)), ("s", (("b", "down"),))]
        choice = self.check(catalog, queries, offers)
        check_same(self, choice.chosen, (0, 1, 2))
        self.assertEqual([name for name, _ in choice.extended().indexes_of("r")], ["ia", "ib"])
        self.assertEqual([name for name, _ in choice.extended().indexes_of("s")], ["ib", "ia", "ic"])

    def test_by_chance(self):
        dice, seen = random.Random(311), {}
        while len(seen) < 4 or min(seen.values()) < 3:
            catalog, first = random_setting(dice, ALL_RUNS, most_tables=2, most_rules=dice.choice((0, 1)))
            queries = [first] + [query for query in [random_query(dice, catalog, ALL_RUNS) for _ in range(dice.randint(0, 3))] if query]
            choice = self.check(catalog, queries, random_offers(dice, catalog, 4, first))
            kind = "none" if choice.chosen is None else min(2, len(choice.chosen))
            seen[kind] = seen.get(kind, 0) + 1

    def test_six_queries(self):
        dice = random.Random(312)
        catalog, query = random_setting(dice, ALL_RUNS, most_tables=1)
        queries = [query, *[query.changed(first=first) for first in (1, 2, 3, 4, 5)]]
        self.check(catalog, tuple(queries), random_offers(dice, catalog, 3, query))

    def test_later_changes_have_no_effect(self):
        offers, queries = [("r", [("a", "down")])], [query_of(("r",), order=ORDER)]
        choice = Choice(bare(), queries, offers)
        offers[0][1][0] = ("b", "up")
        offers.clear()
        queries.clear()
        check_same(self, (choice.chosen, choice.needed_by(0), choice.failing()), ((0,), 0, [((), 0)]))
        self.assertEqual(choice.extended().indexes_of("r"), [("ia", Order([("a", "down")]))])
        choice.failing().clear()
        check_same(self, choice.failing(), [((), 0)])
        with self.assertRaises(AttributeError):
            choice.chosen = ()
        self.assertNotEqual(choice, Choice(bare(), [], []))

    def test_values_of_other_kinds(self):
        choice = Choice(bare(), [query_of(("r",), order=ORDER)], [("r", (("b", "up"),)), ("r", ORDER_OF_A)])
        check_same(self, choice.chosen, (1,))
        for value in odd_values():
            if type(value) is not int or value != 1:
                check_error(self, InvalidCount, {"value": value}, choice.needed_by, value)
        for position in (0, 1, 2):
            check_error(self, InvalidCount, {"value": position}, Choice(bare(), [], []).needed_by, position)


def sign_by(rows, entries):
    """The sign of two rows, dicts by names, by an order."""
    one, other = rows
    for column, direction in entries:
        if one[column] != other[column]:
            return (-1 if one[column] < other[column] else 1) * (1 if direction == "up" else -1)
    return 0


def are_same(columns, rules, one, other):
    """[31] word by word."""
    pairs = [rows_with(columns, vector) for vector in row_vectors(len(columns))]
    let = [rows for rows in pairs if not any(rows_break(rule, *rows) for rule in rules)]
    return all(sign_by(rows, one) == sign_by(rows, other) for rows in let)


class SameSorts(unittest.TestCase):
    def test_examples(self):
        rising = Rules(TWO, [("orders", (("a", "up"),), (("b", "up"),)), ("orders", (("b", "up"),), (("a", "up"),))])
        check_same(self, same_sort(rising, [("a", "up")], (("b", "up"),)), True)
        check_same(self, same_sort(rising, Order([("a", "down")]), (("b", "down"), ("a", "up"))), True)
        check_same(self, same_sort(rising, [("a", "up")], (("b", "down"),)), False)
        check_same(self, same_sort(Rules(TWO), [("a", "up")], [("a", "up"), ("b", "up")]), False)
        check_same(self, same_sort(Rules(TWO, [KEY]), [("a", "up")], [("a", "up"), ("b", "up")]), True)
        check_same(self, same_sort(Rules(TWO), [], [("coming", "up")]), False)
        check_same(self, same_sort(Rules(TWO), [], []), True)
        check_same(self, same_sort(Rules(TWO, [("key", ())]), [], [("coming", "up")]), True)
        check_same(self, same_sort(other=[("a", "up")], one=[("a", "up")], rules=Rules(ONE)), True)

    def test_by_definition(self):
        dice, seen = random.Random(313), {True: 0, False: 0}
        for columns in ALL_COLUMNS[:4]:
            possible, orders = some_rules(columns), orders_over(names(columns) + ("coming",)) + [()]
            for _ in range(40):
                rules = Rules(columns, dice.sample(possible, dice.randint(0, 3)))
                one, other = dice.choice(orders), dice.choice(orders)
                wanted = are_same(columns, rules.rules, one, other)
                seen[wanted] += 1
                check_same(self, same_sort(rules, one, other), wanted)
        self.assertGreater(min(seen.values()), 20)

    def test_wrong_orders(self):
        rules, good, wrong = Rules(TWO), [("a", "up")], [("a", "up"), ("c", "up")]
        for value in odd_values():
            if isinstance(value, Order) or value in ([], ()) or value in ([("a", "up")], (("a", "up"),)):
                continue
            position = 0 if isinstance(value, (list, tuple)) else -1
            told = {"position": position}
            check_error(self, InvalidOrder, told, same_sort, rules, value, good)
            check_error(self, InvalidOrder, told, same_sort, rules, good, value)
            check_error(self, InvalidOrder, told, same_sort, rules, wrong, value)
            check_error(self, InvalidOrder, told, folded_orders, rules, [good, value, wrong])
        check_error(self, InvalidOrder, {"position": 1}, same_sort, rules, wrong, good)
        check_error(self, InvalidOrder, {"position": 1}, same_sort, rules, good, wrong)
        check_error(self, InvalidOrder, {"position": 0}, same_sort, rules, [("r.a", "up")], wrong)
        check_error(self, InvalidOrder, {"position": 1}, same_sort, rules, wrong, [("r.a", "up")])
        check_error(self, InvalidOrder, {"position": 1}, same_sort, rules, wrong, [("a", "up"), ("b", "up"), ("a", "up")][:1] + [("b", "up"), ("d", "up")])
        check_error(self, InvalidOrder, {"position": 2}, same_sort, rules, wrong, [("a", "up"), ("b", "up"), ("a", "up")])
        check_error(self, InvalidOrder, {"position": 1}, folded_orders, rules, [good, wrong, None])
        check_error(self, InvalidOrder, {"position": -1}, folded_orders, rules, [good, None, wrong])

    def test_folded_orders(self):
        orders = [[("b", "up")], [("a", "up")], (("a", "up"), ("b", "down")), Order([("a", "up"), ("coming", "up")]), [], [("coming", "up"), ("a", "up")]]
        check_same(self, folded_orders(Rules(TWO), orders), [(0,), (1, 3), (2,), (4, 5)])
        check_same(self, folded_orders(Rules(TWO, [KEY]), orders), [(0,), (1, 2, 3), (4, 5)])
        check_same(self, folded_orders(Rules(TWO, [("key", ())]), orders), [(0, 1, 2, 3, 4, 5)])
        check_same(self, folded_orders(Rules(TWO, [("orders", (("coming", "up"),), (("a", "up"),))]), orders), [(0,), (1, 3, 4, 5), (2,)])
        check_same(self, folded_orders(rules=Rules(ONE), orders=()), [])
        check_same(self, folded_orders(Rules(ONE), [[("a", "down")]]), [(0,)])

    def test_folded_orders_by_definition(self):
        dice = random.Random(314)
        for columns in ALL_COLUMNS[:4]:
            possible, orders = some_rules(columns), orders_over(names(columns) + ("coming",))
            for _ in range(8):
                rules, chosen = Rules(columns, dice.sample(possible, dice.randint(0, 2))), dice.sample(orders, min(len(orders), 6))
                folds = [[are_same(columns, rules.rules, one + (("coming", "up"),), other + (("coming", "up"),)) for other in chosen] for one in chosen]
                wanted = sorted({tuple(at for at, same in enumerate(row) if same) for row in folds})
                check_same(self, folded_orders(rules, chosen), wanted)

    def test_folded_indexes_have_the_same_sequence(self):
        dice = random.Random(315)
        rules = Rules(TWO, [("determines", ("a",), "b")])
        orders = [tuple(zip(chosen, directions)) for many in (1, 2) for chosen in permutations("ab", many) for directions in product(DIRECTIONS, repeat=many)]
        groups = folded_orders(rules, orders)
        database = Database(Catalog([("r", rules, [])]))
        for _ in range(12):
            number = dice.randint(0, 3)
            database.insert("r", (number, "xyxz"[number]))
        sequences = [self.sequence(database, order) for order in orders]
        for group in groups:
            self.assertEqual(len({tuple(sequences[at]) for at in group}), 1)
        self.assertGreater(len({tuple(sequence) for sequence in sequences}), 3)

    def sequence(self, database, order):
        found = Database(database.catalog.with_index("r", "by", order))
        for _, row in database.rows("r"):
            found.insert("r", row)
        return found.sequence("r", "by")


class Foundations(unittest.TestCase):
    def foundation(self, catalog, query, plan):
        """[31] word by word."""
        rules = {table: list(catalog.rules_of(table).rules) for table in query.tables}
        tables = [part for part in self.tables_of(plan)]
        for table, rule in [(table, rule) for table in tables for rule in rules[table]][::-1]:
            fewer = {name: [kept for kept in listed if (name, kept) != (table, rule)] for name, listed in rules.items()}
            if serves(self.with_rules(catalog, fewer), query, plan):
                rules = fewer
        return [(table, rule) for table in tables for rule in rules[table]]

    def with_rules(self, catalog, rules):
        return Catalog([(table, Rules(catalog.rules_of(table).columns, rules.get(table, ())), catalog.indexes_of(table)) for table in catalog.tables])

    def tables_of(self, plan):
        if plan[0] in ("heap", "index"):
            return [plan[1]]
        if plan[0] == "merge":
            return self.tables_of(plan[2]) + self.tables_of(plan[3])
        return self.tables_of(plan[1]) + [plan[2]] if plan[0] == "seek" else self.tables_of(plan[-1])

    def test_examples(self):
        catalog, query = bare({"r": [KEY, RISING], "s": [RISING]}), query_of(("r", "s"))
        merge = ("merge", (("r.b", "s.b", "up"),), READ, ("heap", "s"))
        other = ("merge", (("s.b", "r.b", "up"),), ("heap", "s"), READ)
        check_same(self, foundation_of(catalog, query, merge), [("r", RISING), ("s", RISING)])
        check_same(self, foundation_of(catalog, query, other), [("s", RISING), ("r", RISING)])
        check_same(self, foundation_of(plan=merge, query=query, catalog=catalog), [("r", RISING), ("s", RISING)])
        sorting = ("merge", (("r.b", "s.b", "up"),), ("sort", (("r.b", "up"),), READ), ("sort", (("s.b", "up"),), ("heap", "s")))
        check_same(self, foundation_of(catalog, query, sorting), [])
        check_same(self, foundation_of(bare(), query_of(("r",)), READ), [])
        all_of_them = [("orders", (("coming", "up"),), (("b", "up"),)), ("orders", (("b", "up"),), (("c", "up"),))]
        runs = query_of(("r",), wanted=("r.b", "r.c"), runs="groups", order=(("r.c", "up"),))
        check_same(self, foundation_of(bare({"r": all_of_them}), runs, ("groups", READ)), [("r", rule) for rule in all_of_them])

    def test_the_last_of_two_that_can_stand_for_each_other_is_taken_out(self):
        two = [("key", ("b",)), ("key", ("b", "c"))]
        query = query_of(("r",), wanted=("r.b", "r.c", "r.a"), order=(("r.b", "up"), ("r.c", "up"), ("r.a", "up")))
        plan = ("sort", (("r.b", "up"), ("r.c", "up")), READ)
        check_same(self, foundation_of(bare({"r": two}), query, plan), [("r", two[0])])
        check_same(self, foundation_of(bare({"r": two[::-1]}), query, plan), [("r", two[1])])

    def test_by_definition(self):
        dice, seen = random.Random(316), {}
        while len(seen) < 4 or min(seen.values()) < 4:
            catalog, query = random_setting(dice, ALL_RUNS)
            plan = dice.choice((least_plan(catalog, query), random_whole_plan(dice, catalog, query)))
            if serves(catalog, query, plan):
                wanted = self.foundation(catalog, query, plan)
                check_same(self, foundation_of(catalog, query, plan), wanted)
                many = sum(len(catalog.rules_of(table).rules) for table in query.tables)
                kind = ("none" if not wanted else "all" if len(wanted) == many else "some") if many else "without"
                seen[kind] = seen.get(kind, 0) + 1
            else:
                check_error(self, NotServing, {}, foundation_of, catalog, query, plan)

    def test_more_rules(self):
        dice = random.Random(317)
        for _ in range(25):
            catalog, query = random_setting(dice, ALL_RUNS, most_tables=2)
            for table in catalog.tables:
                catalog = catalog.with_rules(table, Rules(catalog.rules_of(table).columns, random_rules(dice, catalog.rules_of(table).columns, 6)))
            plan = least_plan(catalog, query)
            check_same(self, foundation_of(catalog, query, plan), self.foundation(catalog, query, plan))

    def test_plans_that_do_not_serve(self):
        query = query_of(("r",), order=ORDER)
        for plan in odd_values() + [READ, ("sort", (), READ), ("heap", "s"), ["heap", "r"]]:
            check_error(self, NotServing, {}, foundation_of, bare(), query, plan)
        check_error(self, Unlike, {}, foundation_of, Catalog([("r", Rules(ONE), [])]), query_of(), None)


if __name__ == "__main__":
    unittest.main()
