"""[28] and [4]: refusals of shapes, and when one is accepted."""

import copy
import random
import unittest

from pairsigns.errors import InvalidPlan, Unlike
from pairsigns.papers import Paper, is_refusal, refusal_of
from pairsigns.planning import filling
from pairsigns.plans import work_of
from pairsigns.queries import Query
from pairsigns.rules import Rules
from pairsigns.tables import Catalog
from pairsigns.wishes import shapes_of
from pairsigns.worlds import World
from tests.plan_samples import catalog_of, list_of, parts_of_plan, query_of, random_setting, references_to, tables_in, things_in
from tests.samples import check_error, check_false, check_same, check_true, odd_values
from tests.shape_samples import below
from tests.world_samples import all_forms, is_free, sign, sign_by

READ = ("heap", "r")
SORT = ("sort", (), READ)
ORDER = (("r.a", "down"),)
DIRECTIONS = ("up", "down")
# Rows that rise in c fall neither in a nor in b.
GOES_WITH_BOTH = [("never", (("a", -1), ("c", 1))), ("never", (("b", -1), ("c", 1)))]


def bare(rules=None):
    return catalog_of(rules, {"r": [], "s": [], "t": []})


def places_of(catalog, plan, path=()):
    """What stands in the list of a stream: entries, and the paths of the sorts at their places."""
    if plan[0] == "sort":
        return [("sort", path), *places_of(catalog, plan[2], path + (2,))]
    if plan[0] == "merge":
        return places_of(catalog, plan[2], path + (2,)) + places_of(catalog, plan[3], path + (3,))
    if plan[0] == "seek":
        return places_of(catalog, plan[1], path + (1,)) + [("entry", entry) for entry in list_of(catalog, ("index", plan[2], plan[3]))]
    return [("entry", entry) for entry in list_of(catalog, plan)]


def wished_by(query, plan):
    """The wishes of a stream: tuples (path, plan, entries)."""
    found = []
    for path, part in parts_of_plan(plan):
        if part[0] == "merge":
            found.append((path + (2,), part[2], tuple((one, direction) for one, _, direction in part[1])))
            found.append((path + (3,), part[3], tuple((two, direction) for _, two, direction in part[1])))
    return found + ([((), plan, query.order.entries)] if len(query.order) else [])


class Judge:
    """[28] word by word, for refusals of one shape."""

    def __init__(self, catalog, query, shape):
        self.catalog, self.query, self.plan = catalog, query, below(shape)
        self.sorts = [path for kind, path in places_of(catalog, self.plan) if kind == "sort"]
        parts = dict(parts_of_plan(self.plan))
        self.references = [[reference for table in tables_in(parts[path]) for reference in references_to(query, table)] for path in self.sorts]
        self.wishes = wished_by(query, self.plan)

    def accepts(self, value):
        if type(value) is not tuple or len(value) != 3:
            return False
        choices, end, worlds = value
        if type(choices) is not tuple or len(choices) != len(self.sorts) or type(worlds) is not tuple:
            return False
        for chosen, references in zip(choices, self.references):
            if type(chosen) is not tuple or any(type(part) is not str or part not in references for part in chosen):
                return False
            if any(one >= other for one, other in zip(chosen, chosen[1:])):
                return False
        if end is None and all(choices):
            return False
        if end is not None and not self.accepts_end(choices, end):
            return False
        if not all(self.accepts_world(choices, part) for part in worlds):
            return False
        needed = [(sort, (reference, direction)) for sort, chosen in enumerate(choices) for reference in self.references[sort]
                  if reference not in chosen for direction in DIRECTIONS]
        return sorted(part[:2] for part in worlds) == sorted(needed)

    def is_pair(self, number, world):
        if type(number) is not int or not 0 <= number < len(self.wishes) or not isinstance(world, World):
            return False
        _, plan, order = self.wishes[number]
        tables, marks, ranks = tables_in(plan), world.marks, world.ranks
        if type(world.size) is not int or world.size != 2 or sorted(marks) != sorted(tables) or sorted(ranks) != sorted(things_in(self.query, tables)):
            return False
        if any(mark not in ((0, 0), (0, 1)) for mark in marks.values()) or any(order not in ((0, 0), (0, 1), (1, 0)) for order in ranks.values()):
            return False
        return is_free(self.catalog, self.query, tables, 2, marks, ranks) and sign_by(ranks, order, 0, 1) == -1

    def things_before(self, number, choices, stop):
        """The things that stand before a position of the list of the wish's stream."""
        path, plan, _ = self.wishes[number]
        found = []
        for kind, told in places_of(self.catalog, plan, path)[:stop]:
            found += [told[0]] if kind == "entry" else choices[self.sorts.index(told)]
        return found

    def accepts_end(self, choices, value):
        if type(value) is not tuple or len(value) != 2 or not self.is_pair(*value):
            return False
        number, world = value
        path, plan, _ = self.wishes[number]
        return any(kind == "entry" and self.decides(number, world, choices, position, told)
                   for position, (kind, told) in enumerate(places_of(self.catalog, plan, path)))

    def decides(self, number, world, choices, position, entry):
        ranks = world.ranks
        return sign_by(ranks, (entry,), 0, 1) == 1 and not any(sign(ranks[thing], 0, 1) for thing in self.things_before(number, choices, position))

    def accepts_world(self, choices, value):
        if type(value) is not tuple or len(value) != 4:
            return False
        sort, entry, number, world = value
        if type(sort) is not int or not 0 <= sort < len(self.sorts) or not self.is_pair(number, world):
            return False
        if type(entry) is not tuple or len(entry) != 2 or any(type(part) is not str for part in entry):
            return False
        path, plan, _ = self.wishes[number]
        places = places_of(self.catalog, plan, path)
        if ("sort", self.sorts[sort]) not in places or entry[0] not in self.references[sort] or entry[1] not in DIRECTIONS:
            return False
        position = places.index(("sort", self.sorts[sort]))
        return self.decides(number, world, choices, position, entry) and not any(sign(world.ranks[thing], 0, 1) for thing in choices[sort])


def spoilt_worlds(world):
    """Worlds that differ a little from one."""
    yield World(world.size, world.marks, {thing: ranks[::-1] for thing, ranks in world.ranks.items()})
    for size in (1, 3, True, None):
        yield World(size, world.marks, world.ranks)
    for table, mark in world.marks.items():
        for other in ((0, 0), (0, 1), (0,), [0, 1], (0, True)):
            if other != mark or type(other) is not tuple:
                yield World(2, world.marks | {table: other}, world.ranks)
        yield World(2, {name: kept for name, kept in world.marks.items() if name != table}, world.ranks)
    for thing, ranks in world.ranks.items():
        for other in ((0, 0), (0, 1), (1, 0), (0, 2), None):
            if other != ranks:
                yield World(2, world.marks, world.ranks | {thing: other})
        yield World(2, world.marks, {name: kept for name, kept in world.ranks.items() if name != thing})


def spoilt(value):
    """All values that differ from a refusal in one part: changed, left out, doubled, exchanged, or put in a list."""
    if isinstance(value, World):
        yield from spoilt_worlds(value)
    elif isinstance(value, tuple):
        yield list(value)
        for at in range(len(value)):
            yield value[:at] + value[at + 1:]
            yield value[:at] + (value[at],) + value[at:]
            yield value[:at] + value[at:at + 2][::-1] + value[at + 2:]
            for part in spoilt(value[at]):
                yield value[:at] + (part,) + value[at + 1:]
    elif isinstance(value, str):
        yield from ("r.a", "s.b", "r.coming", "up", "down", "", None, value + ".")
    else:
        yield from (0, 1, 2, -1, 99, True, False, None, "0")


class Refusing(unittest.TestCase):
    def check(self, catalog, query, shape):
        """The refusal of a shape, right by its definition, or None."""
        found = refusal_of(catalog, query, shape)
        self.assertEqual(found, refusal_of(shape=shape, query=query, catalog=catalog))
        self.assertEqual(found is None, filling(catalog, query, shape) is not None)
        if found is not None:
            check_true(self, is_refusal(catalog, query, shape, found))
            check_true(self, is_refusal(value=found, shape=shape, query=query, catalog=catalog))
            self.assertTrue(Judge(catalog, query, shape).accepts(found))
        return found

    def test_without_a_sort(self):
        query = query_of(("r",), order=ORDER)
        choices, end, worlds = self.check(bare(), query, READ)
        check_same(self, choices, ())
        check_same(self, worlds, ())
        check_same(self, end[0], 0)
        self.assertEqual((end[1].sign("r.a", 0, 1), end[1].sign("r.coming", 0, 1)), (1, 1))
        self.assertIsNone(self.check(bare(), query_of(("r",)), READ))
        self.assertIsNone(self.check(bare({"r": [("key", ())]}), query, READ))
        self.assertIsNotNone(self.check(bare(), query.changed(first=3), ("first", READ)))

    def test_with_one_sort(self):
        query = query_of(("r",), order=ORDER)
        self.assertIsNone(self.check(bare(), query, SORT))
        self.assertIsNone(self.check(bare(), query.changed(order=()), SORT))
        self.assertIsNone(self.check(bare(), query.changed(first=2), ("first", SORT)))
        two = query_of(("r", "s"))
        shape = ("merge", (("r.b", "s.b", "up"),), SORT, ("heap", "s"))
        choices, end, worlds = self.check(bare(), two, shape)
        check_same(self, choices, (("r.a", "r.b", "r.c"),))
        check_same(self, (end[0], worlds), (1, ()))
        self.assertEqual(sorted(end[1].marks), ["s"])

    def test_with_several_sorts(self):
        shape = ("merge", (("r.b", "s.b", "up"),), SORT, ("sort", (), ("heap", "s")))
        query = query_of(("r", "s"), wanted=("r.a", "s.d"), order=ORDER)
        choices, end, worlds = self.check(bare(), query, shape)
        check_same(self, choices[1], ("s.b", "s.d"))
        self.assertLess(len(choices[0]), 3)
        self.assertEqual(len(worlds), 2 * (3 - len(choices[0])))
        self.assertIsNone(self.check(bare(), query, ("sort", (), shape)))
        self.assertIsNone(self.check(bare(), query.changed(order=()), shape))
        down = query.changed(order=(("s.d", "up"), ("r.a", "down")))
        self.assertIsNotNone(self.check(bare(), down, shape))

    def test_numbers_of_sorts_and_wishes(self):
        """The sorts stand in the list above a merge first, then inside of it; its wishes are numbers 0 and 1."""
        inside = ("merge", (("r.b", "s.b", "up"),), SORT, ("heap", "s"))
        query = query_of(("r", "s"), wanted=("r.a",), order=ORDER)
        choices, end, worlds = self.check(bare(), query, ("sort", (), inside))
        check_same(self, choices, (("r.a", "r.b", "r.c", "s.b", "s.d"), ("r.a", "r.b", "r.c")))
        check_same(self, (end[0], worlds), (1, ()))
        merge = ("merge", (("r.b", "s.b", "up"),), READ, ("sort", (), ("heap", "s")))
        choices, end, worlds = self.check(bare(), query, merge)
        self.assertEqual(end[0], 0)
        self.assertEqual(sorted(end[1].marks), ["r"])
        whole = ("merge", (("s.d", "t.d", "up"),), ("sort", (), inside), ("heap", "t"))
        _, end, _ = self.check(bare({"s": [("orders", (("coming", "up"),), (("b", "up"),))]}), query_of(), whole)
        self.assertEqual((end[0], sorted(end[1].marks)), (3, ["t"]))

    def test_a_sort_that_can_have_no_entry(self):
        """r.b and r.c go round, and the heap of r follows them pair by pair: no order of r alone does so."""
        going = ((-1, 0), (0, 1), (1, -1))
        others = [(one, other) for one in (-1, 0, 1) for other in (-1, 0, 1) if (one, other) not in going]
        follows = [("never", (("b", one), ("c", other), ("coming", 1))) for one, other in going]
        needs = [("never", (("b", one), ("c", other), ("e", -1))) for one, other in others]
        columns = (("b", "number"), ("c", "number"))
        catalog = Catalog([("r", Rules(columns, follows), []), ("t", Rules((*columns, ("e", "number")), needs), [("by", [("b", "up")])])])
        query = query_of(("r", "t"), catalog, equalities=[("r.b", "t.b"), ("r.c", "t.c")], wanted=("t.e",), order=(("t.e", "up"),))
        shape = ("seek", SORT, "t", "by", 1)
        found = self.check(catalog, query, shape)
        check_same(self, found[:2], (((),), None))
        self.assertEqual(sorted(part[:2] for part in found[2]), sorted((0, (reference, direction)) for reference in ("r.b", "r.c") for direction in DIRECTIONS))
        self.check_spoilt(catalog, query, shape, found)
        chosen = (((), ), (0, found[2][0][3]), found[2])
        self.assertEqual(is_refusal(catalog, query, shape, chosen), Judge(catalog, query, shape).accepts(chosen))

    def test_shapes_made_by_chance(self):
        dice, seen = random.Random(281), {"none": 0, "end": 0, "worlds": 0}
        while min(seen.values()) < 60:
            catalog, query = random_setting(dice, ("none",))
            shapes = list(shapes_of(catalog, query))
            for shape in dice.sample(shapes, min(len(shapes), 12)):
                found = self.check(catalog, query, shape)
                seen["none" if found is None else "worlds" if found[2] else "end"] += 1

    def check_spoilt(self, catalog, query, shape, refusal):
        """How many values that differ in one part are judged as right, and how many are not."""
        judge, counts = Judge(catalog, query, shape), [0, 0]
        for value in spoilt(refusal):
            wanted = judge.accepts(value)
            counts[wanted] += 1
            check_same(self, is_refusal(catalog, query, shape, value), wanted)
        return counts

    def test_refusals_with_a_part_changed(self):
        dice, right, wrong, many = random.Random(282), 0, 0, 0
        while many < 14:
            catalog, query = random_setting(dice, ("none",), most_tables=2, most_columns=(2, 2))
            shapes = [shape for shape in shapes_of(catalog, query) if work_of(shape)[0] < 3]
            for shape in dice.sample(shapes, min(len(shapes), 3)):
                found = refusal_of(catalog, query, shape)
                if found is not None and (found[2] or many < 5):
                    counts = self.check_spoilt(catalog, query, shape, found)
                    wrong, right, many = wrong + counts[0], right + counts[1], many + 1
        self.assertGreater(wrong, 1000)
        self.assertGreater(right, 20)

    def test_other_worlds_that_show_it(self):
        """Which worlds are named is open: each free pair of the wish's stream is judged in the place of the returned one."""
        dice, seen = random.Random(283), {True: 0, False: 0}
        while min(seen.values()) < 60:
            catalog, query = random_setting(dice, ("none",), most_tables=2, most_columns=(2, 1), most_rules=2)
            for shape in dice.sample(list(shapes_of(catalog, query)), 2):
                found = refusal_of(catalog, query, shape)
                if found is not None and found[1] is not None:
                    self.check_other_worlds(dice, Judge(catalog, query, shape), shape, found, seen)

    def check_other_worlds(self, dice, judge, shape, found, seen):
        choices, end, worlds = found
        pairs = []
        for number, (_, plan, _) in enumerate(judge.wishes):
            free = [World(2, marks, ranks) for marks, ranks in all_forms(judge.query, tables_in(plan), 2, True)
                    if is_free(judge.catalog, judge.query, tables_in(plan), 2, marks, ranks)]
            pairs += [(number, world) for world in dice.sample(free, min(len(free), 15))]
        for pair in pairs:
            values = [(choices, pair, worlds)]
            values += [(choices, end, worlds[:at] + (part[:2] + pair,) + worlds[at + 1:]) for at, part in list(enumerate(worlds))[:2]]
            for value in values:
                wanted = judge.accepts(value)
                seen[wanted] += 1
                check_same(self, is_refusal(judge.catalog, judge.query, shape, value), wanted)

    def test_each_world_exchanged_for_free_pairs_of_each_wish(self):
        """Also of wishes whose streams do not contain the sort, and pairs that are not alike in what is chosen there."""
        rules = {table: Rules(tuple((name, "number") for name in columns)) for table, columns in (("r", "b"), ("s", "bd"), ("t", "d"), ("u", "abc"))}
        catalog = Catalog([(table, kept, []) for table, kept in rules.items()])
        inside = ("merge", (("r.b", "s.b", "up"),), SORT, ("sort", (), ("heap", "s")))
        three = query_of(("r", "s", "t"), catalog, wanted=("r.b",), order=(("r.b", "up"),))
        two = Query(catalog, ("u", "r"), equalities=[("u.b", "r.b")], wanted=("u.a", "u.b"), order=(("u.a", "up"),))
        loose = catalog.with_rules("u", Rules(rules["u"].columns, GOES_WITH_BOTH))
        dice, seen = random.Random(284), {True: 0, False: 0}
        for used, query, shape in ((catalog, three, ("merge", (("s.d", "t.d", "up"),), ("sort", (), inside), ("sort", (), ("heap", "t")))),
                                   (catalog, two, ("merge", (("u.b", "r.b", "up"),), ("sort", (), ("heap", "u")), ("sort", (), ("heap", "r")))),
                                   (loose, two, ("merge", (("u.b", "r.b", "up"),), ("sort", (), ("heap", "u")), ("sort", (), ("heap", "r"))))):
            found = self.check(used, query, shape)
            self.assertTrue(found[2])
            judge = Judge(used, query, shape)
            for pair in self.free_pairs(dice, judge, 12):
                for at, part in dice.sample(list(enumerate(found[2])), 2):
                    value = found[:2] + (found[2][:at] + (part[:2] + pair,) + found[2][at + 1:],)
                    wanted = judge.accepts(value)
                    seen[wanted] += 1
                    check_same(self, is_refusal(used, query, shape, value), wanted)
        self.assertGreater(min(seen.values()), 5)

    def free_pairs(self, dice, judge, many):
        """Some free worlds of two rows of each wish's stream, the first row ahead, with the number of the wish."""
        found = []
        for number, (_, plan, order) in enumerate(judge.wishes):
            free = [World(2, marks, ranks) for marks, ranks in all_forms(judge.query, tables_in(plan), 2, True)
                    if sign_by(ranks, order, 0, 1) == -1 and is_free(judge.catalog, judge.query, tables_in(plan), 2, marks, ranks)]
            found += [(number, world) for world in dice.sample(free, min(len(free), many))]
        return found

    def test_a_world_at_a_sort_must_be_alike_in_what_is_chosen_there(self):
        """At the sort of u, u.c is chosen, since it goes with all that is wished; u.a and u.b are not."""
        catalog = Catalog([("u", Rules(tuple((name, "number") for name in "abc"), GOES_WITH_BOTH), []), ("r", Rules((("b", "number"),)), [])])
        query = Query(catalog, ("u", "r"), equalities=[("u.b", "r.b")], wanted=("u.a", "u.c"), order=(("u.a", "up"),))
        shape = ("merge", (("u.b", "r.b", "up"),), ("sort", (), ("heap", "u")), ("sort", (), ("heap", "r")))
        refusal = refusal_of(catalog, query, shape)
        judge, tried = Judge(catalog, query, shape), [0, 0]
        self.assertTrue(judge.accepts(refusal))
        check_same(self, refusal[0], (("u.c",), ("r.b",)))
        for choices in ((("u.c",), ("r.b",)), ((), ("r.b",)), (("u.a",), ("r.b",)), (("u.b", "u.c"), ("r.b",))):
            for pair in self.free_pairs(random.Random(285), judge, 25):
                for entry in (("u.a", "up"), ("u.a", "down"), ("u.b", "down")):
                    found = (0, entry) + pair
                    wanted = judge.accepts_world(choices, found)
                    tried[wanted] += 1
                    self.assertEqual(Paper(catalog, query, shape).is_world_against(choices, found), wanted)
        self.assertGreater(min(tried), 10)

    def test_a_pair_has_two_rows(self):
        query, shape = query_of(("r",), order=ORDER), READ
        things = things_in(query, ("r",))
        for size, ranks in ((3, (1, 0, 2)), (1, (0,))):
            world = World(size, {"r": tuple(range(size))}, {thing: ranks for thing in things})
            check_false(self, is_refusal(bare(), query, shape, ((), (0, world), ())))
        world = World(2, {"r": (0, 1)}, {thing: (1, 0) for thing in things})
        check_true(self, is_refusal(bare(), query, shape, ((), (0, world), ())))

    def test_worlds_in_any_sequence(self):
        query = query_of(("r", "s"), wanted=("r.a", "s.d"), order=ORDER)
        shape = ("merge", (("r.b", "s.b", "up"),), SORT, ("sort", (), ("heap", "s")))
        choices, end, worlds = refusal_of(bare(), query, shape)
        self.assertGreater(len(worlds), 1)
        check_true(self, is_refusal(bare(), query, shape, (choices, end, worlds[::-1])))
        check_false(self, is_refusal(bare(), query, shape, (choices, end, worlds[1:])))
        check_false(self, is_refusal(bare(), query, shape, (choices, end, worlds + worlds[:1])))

    def test_an_end_is_needed_if_each_sort_has_a_reference(self):
        query, shape = query_of(("r", "s")), ("merge", (("r.b", "s.b", "up"),), SORT, ("heap", "s"))
        choices, end, worlds = refusal_of(bare(), query, shape)
        self.assertIsNotNone(end)
        check_false(self, is_refusal(bare(), query, shape, (choices, None, worlds)))
        check_false(self, is_refusal(bare(), query_of(("r",), order=ORDER), READ, ((), None, ())))

    def test_values_of_other_kinds(self):
        query = query_of(("r",), order=ORDER)
        found = refusal_of(bare(), query, READ)
        for value in odd_values():
            check_false(self, is_refusal(bare(), query, READ, value))
            for at in range(3):
                spoiled = found[:at] + (value,) + found[at + 1:]
                check_same(self, is_refusal(bare(), query, READ, spoiled), Judge(bare(), query, READ).accepts(spoiled))

    def test_no_refusal_of_a_shape_that_can_be_filled(self):
        query = query_of(("r",), order=ORDER)
        _, end, _ = refusal_of(bare(), query, READ)
        for value in (((("r.a", "r.b", "r.c"),), end, ()), (((),), None, ()), (((),), end, ())):
            check_false(self, is_refusal(bare(), query, SORT, value))

    def test_values_that_are_no_shapes_and_queries_with_runs(self):
        query = query_of(("r", "s"))
        sorted_read = ("sort", (("r.b", "up"),), READ)
        for value in odd_values() + [READ, sorted_read, ("first", READ), ("merge", (("r.b", "s.b", "up"),), sorted_read, ("heap", "s"))]:
            check_error(self, InvalidPlan, {"path": ()}, refusal_of, catalog_of(), query, value)
            check_error(self, InvalidPlan, {"path": ()}, is_refusal, catalog_of(), query, value, None)
        for runs in ("distinct", "groups"):
            for shape in (READ, (runs, READ), (runs, SORT), None):
                check_error(self, InvalidPlan, {"path": ()}, refusal_of, bare(), query_of(("r",), runs=runs), shape)
                check_error(self, InvalidPlan, {"path": ()}, is_refusal, bare(), query_of(("r",), runs=runs), shape, None)

    def test_unlike_comes_first(self):
        other = Catalog([("r", Rules((("a", "number"),)), [])])
        check_error(self, Unlike, {}, refusal_of, other, query_of(), None)
        check_error(self, Unlike, {}, is_refusal, other, query_of(runs="groups"), None, None)

    def test_what_is_passed_stays_as_it_was(self):
        query = query_of(("r",), order=ORDER)
        found = refusal_of(bare(), query, READ)
        kept = copy.deepcopy(found)
        is_refusal(bare(), query, READ, found)
        self.assertEqual(found, kept)
        self.assertEqual(refusal_of(bare(), query, READ), found)


if __name__ == "__main__":
    unittest.main()
