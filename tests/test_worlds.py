"""[19] and [20]: worlds, worlds of a stream, and the database of a world."""

import copy
import inspect
import random
import unittest
from itertools import combinations, product

from pairsigns.errors import InvalidCount, TooMany, UnknownName
from pairsigns.rules import Rules
from pairsigns.signs import Order
from pairsigns.streams import Stream
from pairsigns.tables import Catalog, Database
from pairsigns.worlds import World, database_of, is_free_world, is_world, worlds_of
from tests.plan_samples import (catalog_of, fits_alone, groups_of, query_of, random_database, random_setting, random_stream, stream_rows, table_of,
                                tables_in, value_in)
from tests.samples import check_error, check_false, check_same, check_true, odd_values
from tests.world_samples import (MARKS, all_forms, is_free, is_of_stream, keeps_rules, mark_of, ranks_of, room, weak_orders, world_of_rows,
                                 worlds_by_definition)

READ = ("heap", "r")


def small(rules=(), filters=(), kind="number", indexes=(), **changed):
    """A stream of one table r with columns a and b."""
    catalog = Catalog([("r", Rules((("a", kind), ("b", "number")), rules), list(indexes))])
    return Stream(catalog, query_of(("r",), catalog, equalities=[], filters=filters, wanted=("r.a",)), changed.get("plan", READ))


def world(*coming, mark=None, **ranks):
    """A world of rows of r, of which the weak orders are those of these values."""
    size = len(coming)
    ranked = {f"r.{name}": ranks_of(values) for name, values in ranks.items()} | {"r.coming": ranks_of(coming)}
    return World(size, {"r": mark_of(coming) if mark is None else mark}, ranked)


class Worlds(unittest.TestCase):
    def test_parts(self):
        found = World(2, {"s": (0, 1), "r": (0, 0)}, {"s.b": (0, 1), "r.a": (0, 0)})
        check_same(self, found.size, 2)
        check_same(self, found.marks, {"r": (0, 0), "s": (0, 1)})
        check_same(self, list(found.marks), ["r", "s"])
        check_same(self, list(found.ranks.items()), [("r.a", (0, 0)), ("s.b", (0, 1))])
        self.assertEqual(found, World(size=2, marks={"r": (0, 0), "s": (0, 1)}, ranks={"r.a": (0, 0), "s.b": (0, 1)}))

    def test_signs(self):
        found = World(3, {"r": (0, 1, 2)}, {"r.a": (0, 1, 0), "r.b": (2, 1, 0), "r.coming": (0, 2, 1)})
        for thing, ranks in found.ranks.items():
            for one, other in product(range(3), repeat=2):
                check_same(self, found.sign(thing, one, other), (ranks[one] > ranks[other]) - (ranks[one] < ranks[other]))
        check_same(self, found.sign(second=1, first=2, thing="r.a"), -1)
        for order, sign in (((("r.a", "up"), ("r.b", "up")), 1), ([("r.a", "up"), ("r.b", "down")], -1), (Order([("r.a", "down")]), 0), ((), 0),
                            (Order([("r.a", "down"), ("r.coming", "up")]), -1)):
            check_same(self, found.sign_by(order, 0, 2), sign)
            check_same(self, found.sign_by(order, first=2, second=0), -sign)

    def test_equality(self):
        parts = (2, {"r": (0, 1)}, {"r.a": (0, 1)})
        self.assertEqual(World(*parts), World(*parts))
        for other in (World(3, *parts[1:]), World(2, {"r": (0, 0)}, parts[2]), World(2, parts[1], {"r.a": (1, 0)}), World(2, {}, parts[2]), parts, None):
            check_false(self, World(*parts) == other)
            check_true(self, World(*parts) != other)

    def test_nothing_is_checked_and_all_is_kept(self):
        for value in odd_values():
            found = World(value, {"r": value}, {"r.a": value})
            for kept in (found.size, found.marks["r"], found.ranks["r.a"]):
                self.assertIs(type(kept), type(value))
                self.assertTrue(kept is value or kept == value)
            for stream in (small(), small(rules=[("key", ())])):
                check_false(self, is_world(stream, found))
                check_false(self, is_free_world(stream, found))
                check_false(self, is_world(stream, value))
                check_false(self, is_free_world(stream, value))
                whole = world(1, 2, a=(0, 0), b=(0, 1))
                for other in (World(2, {"r": value}, whole.ranks), World(2, whole.marks, whole.ranks | {"r.a": value})):
                    check_false(self, is_free_world(stream, other))
                right = type(value) is int and value == 2 and len(stream.catalog.rules_of("r")) == 0
                check_same(self, is_world(stream, World(value, whole.marks, whole.ranks)), right)

    def test_worlds_never_change(self):
        marks, ranks = {"r": [0, [1]]}, {"r.a": (0, [1, {"b": [2]}])}
        found = World([1], marks, ranks)
        wanted = ([1], {"r": [0, [1]]}, {"r.a": (0, [1, {"b": [2]}])})
        marks["r"][1].append(2)
        marks["s"] = 1
        ranks["r.a"][1][1]["b"].append(3)
        self.assertEqual((found.size, found.marks, found.ranks), wanted)
        found.size.append(1)
        found.marks["r"][1].append(2)
        found.marks.clear()
        found.ranks["r.a"][1].pop()
        found.ranks["r.a"][1][1]["b"].clear()
        self.assertEqual((found.size, found.marks, found.ranks), wanted)
        self.assertIsNot(found.ranks, found.ranks)


class WorldsOfAStream(unittest.TestCase):
    def check(self, stream, found, free, whole):
        check_same(self, is_free_world(stream, found), free)
        check_same(self, is_world(stream, found), whole)
        check_same(self, is_world(value=found, stream=stream), whole)

    def test_forms(self):
        stream = small()
        good = world(1, 2, a=(0, 0), b=(1, 0))
        self.check(stream, good, True, True)
        marks, ranks = good.marks, good.ranks
        for size, mark, order in ((3, marks, ranks), (1, marks, ranks), (True, marks, ranks), (2, {}, ranks), (2, marks | {"s": (0, 1)}, ranks),
                                  (2, {"r": [0, 1]}, ranks), (2, {"r": (0, 2)}, ranks), (2, {"r": (1, 0)}, ranks), (2, {"r": (0, True)}, ranks),
                                  (2, {"r": (False, 1)}, ranks), (2, {"r": (0, -1)}, ranks), (2, {"r": (0, 1, 1)}, ranks), (2, {"r": (0,)}, ranks),
                                  (2, marks, {"r.a": (0, 0), "r.b": (1, 0)}), (2, marks, ranks | {"r.c": (0, 0)}), (2, marks, ranks | {"r.b": [1, 0]}),
                                  (2, marks, ranks | {"r.b": (1, 1)}), (2, marks, ranks | {"r.b": (2, 0)}), (2, marks, ranks | {"r.b": (True, 0)}),
                                  (2, marks, ranks | {"r.b": (0, False)}), (2, marks, ranks | {"r.b": (-1, 0)}), (2, marks, ranks | {"r.b": (1, 0, 0)}),
                                  (2, marks, ranks | {"r.b": None})):
            self.check(stream, World(size, mark, order), False, False)

    def test_other_numbers_of_rows(self):
        for size in (0, 4):
            rows = tuple(range(size))
            self.check(small(), World(size, {"r": rows}, {"r.a": rows, "r.b": rows, "r.coming": rows}), False, False)

    def test_each_condition(self):
        self.check(small(), world(1, 1, a=(0, 0), b=(0, 0)), True, False)
        self.check(small(), world(1, 1, a=(0, 1), b=(0, 0)), False, False)
        self.check(small(), world(1, 2, a=(0, 0), b=(0, 0), mark=(0, 0)), False, False)
        self.check(small(), world(1, 1, a=(0, 0), b=(0, 0), mark=(0, 1)), False, False)
        self.check(small(), world(2, 1, a=(0, 0), b=(0, 0)), True, False)
        self.check(small([("key", ("a",))]), world(1, 2, a=(0, 0), b=(0, 1)), False, False)
        self.check(small([("key", ("a",))]), world(1, 2, a=(1, 0), b=(0, 0)), True, True)
        self.check(small(filters=[("r.a", "=", 1)]), world(1, 2, a=(1, 0), b=(0, 0)), False, False)
        self.check(small(filters=[("r.a", ">", 1), ("r.a", "<=", 3)]), world(1, 2, 3, a=(0, 1, 1), b=(0, 0, 0)), True, True)
        self.check(small(filters=[("r.a", ">", 1), ("r.a", "<=", 3)]), world(1, 2, 3, a=(0, 1, 2), b=(0, 0, 0)), False, False)
        self.check(small(filters=[("r.a", "=", 1), ("r.a", "=", 2)]), world(1, a=(0,), b=(0,)), False, False)
        self.check(small(filters=[("r.a", "=", 1)]), world(1, a=(0,), b=(0,)), True, True)
        self.check(small(plan=("sort", (("r.b", "down"),), READ)), world(2, 1, a=(0, 0), b=(3, 1)), True, True)

    def test_all_worlds_of_two_rows(self):
        dice, seen = random.Random(31), [0, 0, 0]
        for _ in range(90):
            catalog, query = random_setting(dice, most_tables=2, most_columns=(2, 2))
            plan = random_stream(dice, catalog, query)
            stream, tables = Stream(catalog, query, plan), tables_in(plan)
            forms = list(all_forms(query, tables, 2, dice.random() < 0.8))
            for marks, ranks in dice.sample(forms, min(len(forms), 300)):
                free = is_free(catalog, query, tables, 2, marks, ranks)
                whole = is_of_stream(catalog, query, tables, stream.order.entries, 2, marks, ranks)
                seen[free + whole] += 1
                self.check(stream, World(2, marks, ranks), free, whole)
        self.assertGreater(min(seen), 150, seen)

    def test_worlds_of_one_and_three_rows(self):
        dice, seen = random.Random(32), [0, 0, 0]
        for _ in range(60):
            catalog, query = random_setting(dice, most_tables=2, most_columns=(2, 1), most_rules=1)
            plan = random_stream(dice, catalog, query)
            stream, tables = Stream(catalog, query, plan), tables_in(plan)
            for size, many in ((1, 1), (3, 60)):
                for _ in range(many):
                    mark = {table: dice.choice(MARKS[size]) for table in tables}
                    ranks = {}
                    for group in groups_of(query, tables) + [{f"{table}.coming"} for table in tables]:
                        likely = [mark[table] for table in sorted(map(table_of, group))]
                        order = dice.choice(weak_orders(size)) if dice.random() < 0.3 else dice.choice(likely)
                        ranks |= {thing: order for thing in group}
                    free = is_free(catalog, query, tables, size, mark, ranks)
                    whole = is_of_stream(catalog, query, tables, stream.order.entries, size, mark, ranks)
                    seen[free + whole] += 1
                    self.check(stream, World(size, mark, ranks), free, whole)
        self.assertGreater(min(seen), 30, seen)

    def test_cutting(self):
        """Rows of a stream are described by worlds of it."""
        dice, seen = random.Random(33), {1: 0, 2: 0, 3: 0}
        for _ in range(120):
            catalog, query = random_setting(dice)
            plan, database = random_stream(dice, catalog, query), random_database(dice, catalog)
            stream, rows = Stream(catalog, query, plan), stream_rows(database, query, plan)
            for size in (1, 2, 3):
                chosen = list(combinations(rows, size))
                for part in dice.sample(chosen, min(5, len(chosen))):
                    seen[size] += 1
                    self.check(stream, world_of_rows(database, query, stream.tables, part), True, True)
        self.assertGreater(min(seen.values()), 100, seen)


class Databases(unittest.TestCase):
    def test_places_and_values(self):
        stream = small(filters=[("r.b", ">=", 7)])
        found = World(3, {"r": (0, 1, 2)}, {"r.a": (1, 0, 2), "r.b": (1, 1, 0), "r.coming": (2, 0, 1)})
        database, rows = database_of(stream, found)
        self.assertEqual(rows, [(2,), (0,), (1,)])
        self.assertEqual(database.rows("r"), [(0, (0, 8)), (1, (2, 7)), (2, (1, 8))])
        self.assertIs(type(database), Database)
        self.assertEqual(database.catalog, stream.catalog)

    def test_ranges(self):
        for filters, values in (((), (0, 1, 2)), ([("r.a", ">", 4)], (5, 6, 7)), ([("r.a", "<=", 4)], (2, 3, 4)), ([("r.a", ">=", -9), ("r.a", "<", 4)], (-9, -8, -7))):
            database, rows = database_of(small(filters=filters), world(1, 2, 3, a=(0, 1, 2), b=(0, 0, 0)))
            self.assertEqual([database.row("r", place)[0] for (place,) in rows], list(values))
        database, rows = database_of(small(filters=[("r.a", "<", 4)]), world(1, 2, 3, a=(0, 1, 1), b=(0, 0, 0)))
        self.assertEqual([row for _, row in database.rows("r")], [(2, 0), (3, 0), (3, 0)])

    def test_texts(self):
        for filters, ranks, texts in (((), (0, 1, 2), "abc"), ((), (2, 0, 1), "cab"), ([("r.a", "=", "z")], (0, 0, 0), "zzz")):
            database, rows = database_of(small(filters=filters, kind="text"), world(1, 2, 3, a=ranks, b=(0, 0, 0)))
            self.assertEqual("".join(database.row("r", place)[0] for (place,) in rows), texts)

    def test_rows_made_of_one_row(self):
        query = query_of(("r", "s"))
        stream = Stream(catalog_of(), query, ("seek", READ, "s", "bd", 1))
        ranks = {"r.a": (0, 0), "r.b": (0, 0), "r.c": (0, 0), "r.coming": (0, 0), "s.b": (0, 0), "s.d": (1, 0), "s.coming": (0, 1)}
        database, rows = database_of(stream, World(2, {"r": (0, 0), "s": (0, 1)}, ranks))
        self.assertEqual(rows, [(0, 0), (0, 1)])
        self.assertEqual(database.rows("r"), [(0, (0, 0, "a"))])
        self.assertEqual(database.rows("s"), [(0, (0, 1)), (1, (0, 0))])
        self.assertEqual(database.rows("t"), [])

    def test_making(self):
        """The rows of a world are rows of the stream over its database, in its sequence, and the rules are kept."""
        dice, seen = random.Random(34), {1: 0, 2: 0, 3: 0}
        for _ in range(60):
            catalog, query = random_setting(dice, most_tables=2, most_columns=(2, 1))
            plan = random_stream(dice, catalog, query)
            stream = Stream(catalog, query, plan)
            for size in (1, 2, 3):
                worlds = [(dict(zip(stream.tables, marks)), ranks) for marks, ranks in self.some_worlds(dice, stream, size)]
                for marks, ranks in worlds:
                    seen[size] += 1
                    self.check_made(stream, World(size, marks, ranks))
        self.assertGreater(min(seen.values()), 40, seen)

    def some_worlds(self, dice, stream, size):
        if size < 3:
            found = worlds_by_definition(stream.catalog, stream.query, stream.tables, stream.order.entries, size)
            return [([marks[table] for table in stream.tables], ranks) for marks, ranks in dice.sample(found, min(6, len(found)))]
        heads = [group[0] for group in stream.classes][:1] + [f"{stream.tables[0]}.coming"]
        things = list(stream.things) if len(stream.things) <= 3 else heads
        found = list(worlds_of(stream, 3, things)) if things == list(stream.things) else []
        made = [dict(zip(things, ranks)) for ranks in dice.sample(found, min(6, len(found)))]
        return [([mark_of(ranks[f"{table}.coming"]) for table in stream.tables], ranks) for ranks in made]

    def check_made(self, stream, found):
        database, rows = database_of(stream, found)
        again, same = database_of(world=found, stream=stream)
        self.assertEqual((again, same), (database, rows))
        self.assertIs(type(rows), list)
        same.clear()
        self.assertEqual(database_of(stream, found)[1], rows)
        check_true(self, keeps_rules(database))
        self.assertEqual(world_of_rows(database, stream.query, stream.tables, rows), found)
        came = stream_rows(database, stream.query, stream.plan)
        self.assertEqual([row for row in came if row in rows], rows)
        for at, table in enumerate(stream.tables):
            self.assertEqual(len(database.rows(table)), len({row[at] for row in rows}))
            for row in rows:
                self.assertTrue(fits_alone(database, stream.query, table, row[at]))

    def test_other_tables_are_empty(self):
        stream = Stream(catalog_of(), query_of(), READ)
        ranks = {thing: (0,) for thing in stream.things}
        database, rows = database_of(stream, World(1, {"r": (0,)}, ranks))
        self.assertEqual(rows, [(0,)])
        self.assertEqual((len(database), database.rows("s"), database.rows("t")), (1, [], []))


class AllWorlds(unittest.TestCase):
    def test_one_and_two_rows(self):
        dice, many = random.Random(35), 0
        for _ in range(100):
            catalog, query = random_setting(dice, most_tables=2, most_columns=(2, 1))
            plan = random_stream(dice, catalog, query)
            stream = Stream(catalog, query, plan)
            for size in (1, 2):
                known = worlds_by_definition(catalog, query, stream.tables, stream.order.entries, size)
                for _ in range(4):
                    things = dice.sample(stream.things, dice.randint(0, min(6, len(stream.things))))
                    wanted = sorted({tuple(ranks[thing] for thing in things) for _, ranks in known})
                    many += len(wanted)
                    check_same(self, list(worlds_of(stream, size, things)), wanted)
                    check_same(self, list(worlds_of(things=tuple(things), size=size, stream=stream)), wanted)
        self.assertGreater(many, 700)

    def test_three_rows(self):
        dice, many = random.Random(36), 0
        for _ in range(40):
            catalog, query = random_setting(dice, most_tables=1, most_columns=(2,))
            stream = Stream(catalog, query, random_stream(dice, catalog, query))
            known = worlds_by_definition(catalog, query, stream.tables, stream.order.entries, 3)
            for _ in range(3):
                things = dice.sample(stream.things, dice.randint(0, min(3, len(stream.things))))
                wanted = sorted({tuple(ranks[thing] for thing in things) for _, ranks in known})
                many += len(wanted)
                check_same(self, list(worlds_of(stream, 3, things)), wanted)
        self.assertGreater(many, 1000)

    def test_three_rows_of_two_tables(self):
        """What worlds_of yields can be completed to worlds, and what rows show is among it."""
        dice, many = random.Random(37), 0
        for _ in range(60):
            catalog, query = random_setting(dice)
            plan = random_stream(dice, catalog, query)
            stream = Stream(catalog, query, plan)
            things = dice.sample(stream.things, min(3, len(stream.things)))
            found = list(worlds_of(stream, 3, things))
            self.assertEqual(found, sorted(set(found)))
            for _ in range(4):
                database = random_database(dice, catalog)
                for rows in list(combinations(stream_rows(database, query, plan), 3))[:20]:
                    many += 1
                    self.assertIn(tuple(ranks_of([value_in(database, stream.tables, row, thing) for row in rows]) for thing in things), found)
        self.assertGreater(many, 500)

    def test_rooms_and_rules(self):
        check_same(self, list(worlds_of(small(filters=[("r.a", "<", 1), ("r.a", ">", 1)]), 1, ["r.a"])), [])
        check_same(self, list(worlds_of(small(filters=[("r.a", "=", 1)]), 2, ["r.a", "r.coming"])), [((0, 0), (0, 1))])
        check_same(self, list(worlds_of(small(), 2, ["r.coming"])), [((0, 1),)])
        check_same(self, list(worlds_of(small([("key", ())]), 2, [])), [])
        check_same(self, list(worlds_of(small([("key", ())]), 1, [])), [()])
        check_same(self, list(worlds_of(small(), 3, ["r.a"])), [(ranks,) for ranks in weak_orders(3)])
        two = small(filters=[("r.a", ">", 1), ("r.a", "<=", 3)])
        check_same(self, list(worlds_of(two, 3, ["r.a"])), [(ranks,) for ranks in weak_orders(3) if len(set(ranks)) < 3])
        self.assertEqual(room(two.query, {"r.a"}), 2)

    def test_three_signs_that_do_not_come_from_three_rows(self):
        """Never alike in a, and never up in a and b: three rows cannot go round."""
        stream = small([("orders", (("a", "up"),), (("b", "down"),)), ("orders", (("b", "down"),), (("a", "up"),))])
        for ranks in worlds_of(stream, 3, ["r.a", "r.b"]):
            self.assertEqual(tuple(max(ranks[0]) - rank for rank in ranks[0]), ranks[1])

    def test_errors(self):
        stream = Stream(catalog_of(), query_of(), ("merge", (("r.b", "s.b", "up"),), READ, ("heap", "s")))
        self.assertTrue(inspect.isgeneratorfunction(worlds_of))
        for value in odd_values():
            if type(value) is not int or not 1 <= value <= 3:
                check_error(self, InvalidCount, {"value": value}, list, worlds_of(stream, value, ["z"]))
            check_error(self, UnknownName, {"value": value}, list, worlds_of(stream, 2, ["r.a", value, "z"]))
        things = list(stream.things)
        self.assertEqual(len(things), 7)
        for size in (1, 2, 3):
            check_error(self, UnknownName, {"value": "r.a"}, list, worlds_of(stream, size, ["r.a", "r.b", "r.a", "z"]))
            check_error(self, UnknownName, {"value": "t.d"}, list, worlds_of(stream, size, things + ["t.d"]))
            limit = 3 if size == 3 else 6
            check_error(self, TooMany, {"kind": "things", "limit": limit}, list, worlds_of(stream, size, things))
            check_error(self, TooMany, {"kind": "things", "limit": limit}, list, worlds_of(stream, size, things[:limit + 1]))
            self.assertTrue(list(worlds_of(stream, size, things[:limit])))
        check_error(self, InvalidCount, {"value": 4}, next, worlds_of(stream, 4, []))

    def test_arguments_stay(self):
        things = ["r.a", "r.b"]
        stream, before = small(), copy.deepcopy(things)
        self.assertEqual(list(worlds_of(stream, 2, things)), list(worlds_of(stream, 2, things)))
        self.assertEqual(things, before)


if __name__ == "__main__":
    unittest.main()
