"""[21], [23], [18] and [4]: questions, their answers, sound streams, vectors, short lists, and same sequences."""

import copy
import random
import unittest

from pairsigns.errors import InvalidQuestion, OutOfOrder, TooMany, UnknownName, Unlike
from pairsigns.questions import Answer, No, Yes, ask, is_broken_by, is_sound, same_sequence, short_list, vectors_of
from pairsigns.reasons import is_reason
from pairsigns.rules import Rules
from pairsigns.running import run_plan
from pairsigns.signs import Order
from pairsigns.streams import Stream
from pairsigns.tables import Catalog
from pairsigns.worlds import World, database_of, is_free_world, is_world
from tests.plan_samples import (catalog_of, list_of, parts_of_plan, query_of, random_database, random_setting, random_stream, sequences, stream_rows,
                                tables_in)
from tests.question_samples import KINDS, holds, is_broken, likely_question, random_question, size_of
from tests.samples import check_error, check_false, check_same, check_true, odd_values
from tests.world_samples import all_forms, is_free, is_of_stream, keeps_rules, sign, sign_by, world_of_rows, worlds_by_definition

READ = ("heap", "r")
TWO = ("merge", (("r.b", "s.b", "up"),), ("sort", (("r.b", "up"),), READ), ("index", "s", "bd"))
DAYS = (("day", "number"), ("month", "number"), ("who", "text"))


def days(plan=READ, rules=(("orders", (("day", "up"),), (("month", "up"),)),), filters=(), indexes=(("by", (("day", "up"),)),)):
    """A stream of one table with days and their months."""
    catalog = Catalog([("r", Rules(DAYS, rules), list(indexes))])
    return Stream(catalog, query_of(("r",), catalog, equalities=[], wanted=("r.day",), filters=filters), plan)


def stream_of(plan=TWO, query=None, rules=None):
    return Stream(catalog_of(rules), query or query_of(), plan)


class Examples(unittest.TestCase):
    def check(self, stream, yes=(), no=()):
        for question in yes:
            found = ask(stream, question)
            self.assertIs(type(found), Yes, question)
            check_true(self, is_reason(stream, question, found.reason))
        for question in no:
            found = ask(stream, question)
            self.assertIs(type(found), No, question)
            check_true(self, is_world(stream, found.world))
            check_true(self, is_broken_by(stream, question, found.world))

    def test_sorted(self):
        by_day = days(("index", "r", "by"))
        self.check(by_day, [("sorted", ()), ("sorted", (("r.day", "up"),)), ("sorted", (("r.month", "up"), ("r.day", "up"))),
                            ("sorted", (("r.month", "up"), ("r.day", "up"), ("r.coming", "up")))],
                   [("sorted", (("r.day", "down"),)), ("sorted", (("r.coming", "up"),)), ("sorted", (("r.month", "up"), ("r.who", "up")))])
        self.check(days(rules=[("orders", (("coming", "up"),), (("day", "up"),))]), [("sorted", (("r.day", "up"), ("r.coming", "up")))],
                   [("sorted", (("r.month", "up"),))])
        self.check(days(rules=[("key", ())]), [("sorted", (("r.who", "down"),)), ("single",), ("constant", "r.who"), ("key", ())], [("empty",)])

    def test_eight_entries(self):
        entries = tuple((thing, "up") for thing in ("r.b", "s.b", "r.coming", "s.d", "s.coming", "r.a", "r.c"))
        stream = stream_of()
        self.check(stream, [("sorted", entries), ("sorted", (("r.b", "up"), ("r.coming", "up"), ("s.b", "down"), ("s.d", "up")))])
        whole = Stream(catalog_of(), query_of(), ("seek", TWO, "t", "de", 1))
        eight = (("r.b", "up"), ("s.b", "down"), ("r.coming", "up"), ("r.a", "down"), ("r.c", "up"), ("s.d", "up"), ("t.d", "down"), ("s.coming", "up"))
        self.check(whole, [("sorted", eight)])
        check_error(self, InvalidQuestion, {}, ask, whole, ("sorted", eight + (("t.coming", "up"),)))

    def test_keys(self):
        self.check(days(rules=[("key", ("day",))]), [("key", ("r.day",)), ("key", ("r.who", "r.day")), ("key", ("r.coming",))],
                   [("key", ("r.month",)), ("key", ())])
        self.check(stream_of(), [("key", ("r.coming", "s.coming"))], [("key", ("r.coming",)), ("key", ("r.a", "r.b", "r.c", "s.b", "s.d"))])
        self.check(stream_of(rules={"s": [("key", ("b",))]}), [("key", ("r.coming",))], [("key", ("s.coming",))])

    def test_determines(self):
        self.check(days(), [("determines", ("r.day",), "r.month"), ("determines", ("r.day",), "r.day"), ("determines", ("r.coming",), "r.who")],
                   [("determines", ("r.month",), "r.day"), ("determines", (), "r.day"), ("determines", ("r.day",), "r.coming")])
        self.check(stream_of(), [("determines", ("r.b",), "s.b"), ("determines", ("s.coming",), "r.b")], [("determines", ("s.coming",), "r.a")])

    def test_constant_single_and_empty(self):
        self.check(days(filters=[("r.day", "=", 4)]), [("constant", "r.day"), ("constant", "r.month")], [("constant", "r.who"), ("single",), ("empty",)])
        self.check(days(filters=[("r.day", "=", 4)], rules=[("key", ("day",))]), [("single",), ("constant", "r.coming")], [("empty",)])
        self.check(days(filters=[("r.day", "=", 4), ("r.day", ">", 4)]), [("empty",), ("single",), ("key", ()), ("together", ("r.who",))])
        self.check(days(filters=[("r.who", "=", "a"), ("r.who", "=", "b")]), [("empty",)])

    def test_together(self):
        by_day = days(("index", "r", "by"))
        self.check(by_day, [("together", ("r.day",)), ("together", ("r.month",)), ("together", ("r.month", "r.day")), ("together", ()),
                            ("together", ("r.coming",)), ("together", ("r.coming", "r.who"))], [("together", ("r.who",)), ("together", ("r.day", "r.who"))])
        self.check(days(filters=[("r.who", "=", "a")], plan=("index", "r", "by")), [("together", ("r.day", "r.who")), ("together", ("r.who",))])

    def test_together_needs_three_rows(self):
        """Sorted by neither a nor b, but with a single change of either."""
        rules = [("orders", (("a", "up"),), (("b", "up"),)), ("key", ("a",))]
        catalog = Catalog([("r", Rules((("a", "number"), ("b", "number")), rules), [])])
        query = query_of(("r",), catalog, equalities=[], wanted=("r.a",), filters=[("r.a", ">", 0), ("r.a", "<", 3)])
        self.check(Stream(catalog, query, READ), [("together", ("r.b",))], [("sorted", (("r.b", "up"),)), ("sorted", (("r.b", "down"),))])

    def test_sides_of_merges_that_are_not_sorted(self):
        apart = ("merge", (("r.b", "s.b", "up"),), READ, ("heap", "s"))
        self.check(stream_of(apart), [("sorted", (("r.coming", "up"), ("s.coming", "up")))], [("sorted", (("r.b", "up"),)), ("together", ("r.b",))])
        shape = ("merge", (("r.b", "s.b", "up"),), ("sort", (), ("index", "r", "by")), ("sort", (), ("heap", "s")))
        self.check(stream_of(shape), [("sorted", (("s.b", "up"), ("r.a", "down")))], [("sorted", (("r.coming", "up"),))])

    def test_three_tables(self):
        rules = {"s": [("key", ("b",))], "t": [("key", ("d",))]}
        stream = stream_of(("seek", ("seek", ("index", "r", "by"), "s", "bd", 1), "t", "de", 1), rules=rules)
        self.check(stream, [("key", ("r.coming",)), ("sorted", (("s.b", "up"), ("r.a", "down"), ("r.coming", "up"))), ("determines", ("r.b",), "t.e"),
                            ("together", ("r.b",)), ("together", ("s.coming",)), ("together", ("s.b", "t.e")), ("together", ("r.a", "t.coming", "r.b"))],
                   [("together", ("t.e",)), ("key", ("r.a", "t.coming")), ("sorted", (("t.d", "up"),))])


class Exact(unittest.TestCase):
    def questions(self, dice, stream, many):
        entries = list(stream.order.entries)
        return [dice.choice((random_question(dice, list(stream.things)), likely_question(dice, list(stream.things), entries))) for _ in range(many)]

    def test_against_all_worlds(self):
        dice, seen = random.Random(41), {True: 0, False: 0}
        for _ in range(70):
            catalog, query = random_setting(dice, most_tables=2, most_columns=(2, 1))
            plan = random_stream(dice, catalog, query)
            stream = Stream(catalog, query, plan)
            sizes = (1, 2, 3) if len(stream.classes) + len(stream.tables) <= 3 else (1, 2)
            known = {size: worlds_by_definition(catalog, query, stream.tables, stream.order.entries, size) for size in sizes}
            for question in self.questions(dice, stream, 12):
                if size_of(question) in known:
                    wanted = not any(is_broken(question, size_of(question), ranks) for _, ranks in known[size_of(question)])
                    seen[wanted] += 1
                    check_same(self, bool(ask(stream, question)), wanted)
        self.assertGreater(min(seen.values()), 200, seen)

    def test_yes_holds_and_no_is_shown(self):
        dice, seen = random.Random(42), {}
        for _ in range(250):
            catalog, query = random_setting(dice)
            plan = random_stream(dice, catalog, query)
            stream = Stream(catalog, query, plan)
            databases = [random_database(dice, catalog) for _ in range(4)]
            for question in self.questions(dice, stream, 6):
                answer = ask(stream, question)
                seen[(question[0], bool(answer))] = seen.get((question[0], bool(answer)), 0) + 1
                if answer:
                    check_true(self, is_reason(stream, question, answer.reason))
                    for database in databases:
                        self.assertTrue(holds(database, query, plan, question), (plan, question))
                else:
                    self.check_no(stream, question, answer.world)
        self.assertEqual(len(seen), 2 * len(KINDS))
        self.assertGreater(min(seen.values()), 2, seen)

    def check_no(self, stream, question, world):
        tables = stream.tables
        self.assertEqual(world.size, size_of(question))
        self.assertTrue(is_of_stream(stream.catalog, stream.query, tables, stream.order.entries, world.size, world.marks, world.ranks))
        self.assertTrue(is_broken(question, world.size, world.ranks))
        database, rows = database_of(stream, world)
        self.assertTrue(keeps_rules(database))
        self.assertEqual(world_of_rows(database, stream.query, tables, rows), world)
        self.assertLessEqual(max(len(database.rows(table)) for table in stream.catalog.tables), size_of(question))
        self.assertFalse(holds(database, stream.query, stream.plan, question))
        if is_sound(stream):
            came = list(run_plan(database, stream.query, stream.plan)) if "sort" not in self.open_sorts(stream.plan) else rows
            self.assertEqual([row for row in came if row in rows], rows)

    def open_sorts(self, plan):
        return [part[0] for _, part in parts_of_plan(plan) if part[0] == "sort" and part[1] == ()]

    def test_equal_calls(self):
        dice = random.Random(43)
        for _ in range(30):
            catalog, query = random_setting(dice)
            plan = random_stream(dice, catalog, query)
            for question in self.questions(dice, Stream(catalog, query, plan), 4):
                one, kept = Stream(catalog, query, plan), copy.deepcopy(question)
                first = ask(one, question)
                self.assertEqual(ask(one, question), first)
                self.assertEqual(ask(Stream(catalog, query, plan), kept), first)
                self.assertEqual(question, kept)


class Answers(unittest.TestCase):
    def test_classes(self):
        self.assertEqual([Yes.__bases__, No.__bases__], [(Answer,), (Answer,)])
        yes, no = Yes(("ends", ("asked",))), No(World(1, {}, {}))
        check_true(self, bool(yes))
        check_false(self, bool(no))
        check_same(self, yes.reason, ("ends", ("asked",)))
        self.assertEqual(no.world, World(1, {}, {}))
        self.assertEqual(Yes(reason=yes.reason), yes)
        self.assertEqual(No(world=no.world), no)
        for other in (no, Yes(("ends", ("list",))), yes.reason, True, None, 1):
            check_false(self, yes == other)
        for other in (yes, No(World(2, {}, {})), no.world, False, None, 0):
            check_false(self, no == other)
        self.assertIsInstance(vars(Yes)["reason"], property)
        self.assertIsInstance(vars(No)["world"], property)


class Broken(unittest.TestCase):
    def test_against_the_definition(self):
        dice, seen = random.Random(44), {True: 0, False: 0}
        for _ in range(40):
            catalog, query = random_setting(dice, most_tables=2, most_columns=(2, 1))
            stream = Stream(catalog, query, random_stream(dice, catalog, query))
            for size in (1, 2):
                free = [(marks, ranks) for marks, ranks in all_forms(query, stream.tables, size, True)
                        if is_free(catalog, query, stream.tables, size, marks, ranks)]
                for marks, ranks in dice.sample(free, min(4, len(free))):
                    for kind in KINDS:
                        question = random_question(dice, list(stream.things), kind)
                        wanted = is_broken(question, size, ranks)
                        seen[wanted] += 1
                        check_same(self, is_broken_by(stream, question, World(size, marks, ranks)), wanted)
        self.assertGreater(min(seen.values()), 100, seen)

    def test_three_rows(self):
        stream = days()
        ranks = {"r.day": (0, 1, 0), "r.month": (0, 0, 0), "r.who": (0, 0, 0), "r.coming": (0, 2, 1)}
        world = World(3, {"r": (0, 1, 2)}, ranks)
        check_true(self, is_free_world(stream, world))
        check_false(self, is_world(stream, world))
        for question, wanted in ((("together", ("r.day",)), True), (("together", ("r.month",)), False), (("together", ("r.day", "r.who")), True),
                                 (("together", ("r.coming",)), False), (("together", ()), False), (("single",), False), (("empty",), False),
                                 (("constant", "r.day"), False)):
            check_same(self, is_broken_by(stream, question, world), wanted)
            check_same(self, is_broken_by(world=world, question=question, stream=stream), wanted)

    def test_wrong_questions_come_first(self):
        stream = days()
        for world in (None, 1, World(1, {}, {}), World(True, {}, {})):
            check_error(self, InvalidQuestion, {}, is_broken_by, stream, ("key",), world)


class WrongQuestions(unittest.TestCase):
    def check(self, stream, question):
        check_error(self, InvalidQuestion, {}, ask, stream, question)
        check_error(self, InvalidQuestion, {}, is_broken_by, stream, question, None)
        check_error(self, InvalidQuestion, {}, is_reason, stream, question, None)

    def test_values_of_other_kinds(self):
        stream = stream_of()
        for value in odd_values():
            for question in (value, ("sorted", value), ("key", value), ("together", value), ("constant", value), ("determines", value, "r.a"),
                             ("determines", ("r.a",), value), ("key", (value,)), ("sorted", (value,)), ("sorted", ((value, "up"),)),
                             ("single", value), ("empty", value), (value, ("r.a",))):
                if question not in (("sorted", ()), ("key", ()), ("together", ()), ("determines", (), "r.a"), ("key", ("r.a",))):
                    self.check(stream, question)

    def test_each_part(self):
        stream = stream_of()
        for question in (("sorted",), ("sorted", [("r.a", "up")]), ("sorted", (["r.a", "up"],)), ("sorted", (("r.a", "left"),)), ("sorted", Order()),
                         ("sorted", (("r.a", "up"), ("r.a", "down"))), ("sorted", (("t.d", "up"),)), ("sorted", (("a", "up"),)),
                         ("sorted", (("r.z", "up"),)), ("sorted", (("t.coming", "up"),)), ("sorted", (("coming", "up"),)), ("sorted", (), ()),
                         ("key",), ("key", ["r.a"]), ("key", ("r.a", "r.a")), ("key", ("t.d",)), ("key", "r.a"), ("key", ("r",)), ("key", (), ()),
                         ("determines", ("r.a",)), ("determines", ["r.a"], "r.b"), ("determines", ("r.a",), "t.d"), ("determines", ("r.a",), ("r.b",)),
                         ("determines", ("r.a", "r.a"), "r.b"), ("determines", ("t.coming",), "r.b"), ("constant",), ("constant", ("r.a",)),
                         ("constant", "t.coming"), ("constant", "r"), ("single", ()), ("empty", ()), ("single"), ["single"], ("together",),
                         ("together", ["r.a"]), ("together", ("r.a", "r.a")), ("together", ("t.e",)), ("Sorted", ()), ("unique", ("r.a",))):
            self.check(stream, question)

    def test_things_may_be_many(self):
        stream = stream_of()
        for question in (("key", stream.things), ("together", stream.things), ("determines", stream.things, "r.a")):
            check_true(self, bool(ask(stream, question)))


class Sound(unittest.TestCase):
    def test_examples(self):
        for plan, wanted in ((READ, True), (TWO, True), (("merge", (("r.b", "s.b", "up"),), READ, ("heap", "s")), False),
                             (("merge", (("r.b", "s.b", "up"),), ("index", "r", "by"), ("index", "s", "bd")), True),
                             (("merge", (("r.b", "s.b", "down"),), ("index", "r", "by"), ("index", "s", "bd")), False),
                             (("merge", (("r.b", "s.b", "up"),), ("index", "r", "by"), ("heap", "s")), False),
                             (("seek", ("merge", (("r.b", "s.b", "up"),), READ, ("index", "s", "bd")), "t", "de", 1), False),
                             (("sort", (("r.b", "up"),), ("merge", (("r.b", "s.b", "up"),), READ, ("index", "s", "bd"))), False),
                             (("sort", (), READ), True), (("merge", (("r.b", "s.b", "up"),), ("sort", (), READ), ("index", "s", "bd")), False),
                             (("merge", (("r.b", "s.b", "up"),), ("sort", (), ("index", "r", "by")), ("index", "s", "bd")), True)):
            check_same(self, is_sound(stream_of(plan)), wanted)
            check_same(self, is_sound(stream=stream_of(plan)), wanted)

    def test_against_runs(self):
        dice, seen = random.Random(45), {True: 0, False: 0}
        for _ in range(150):
            catalog, query = random_setting(dice, most_rules=1)
            plan = random_stream(dice, catalog, query)
            stream = Stream(catalog, query, plan)
            sound = is_sound(stream)
            seen[sound] += 1
            if sound:
                for _ in range(3):
                    database = random_database(dice, catalog)
                    self.assertEqual(list(run_plan(database, query, plan)), stream_rows(database, query, plan))
            else:
                self.check_unsound(stream)
        self.assertGreater(min(seen.values()), 20, seen)

    def check_unsound(self, stream):
        """The database of the innermost precondition that is answered with no makes a run raise OutOfOrder."""
        for path, part in parts_of_plan(stream.plan):
            if part[0] == "merge":
                for side, at in ((part[2], 0), (part[3], 1)):
                    inside = Stream(stream.catalog, stream.query, side)
                    answer = ask(inside, ("sorted", tuple((pair[at], pair[2]) for pair in part[1])))
                    if not answer:
                        database, _ = database_of(inside, answer.world)
                        check_error(self, OutOfOrder, {"path": path}, list, run_plan(database, stream.query, stream.plan))
                        return
        self.fail("no precondition is answered with no")


class Vectors(unittest.TestCase):
    def test_against_all_worlds(self):
        dice, many = random.Random(46), 0
        for _ in range(100):
            catalog, query = random_setting(dice, most_tables=2, most_columns=(2, 2))
            plan = random_stream(dice, catalog, query)
            stream = Stream(catalog, query, plan)
            known = worlds_by_definition(catalog, query, stream.tables, stream.order.entries, 2)
            for _ in range(3):
                things = dice.sample(stream.things, dice.randint(0, min(6, len(stream.things))))
                wanted = sorted({tuple(sign(ranks[thing], 0, 1) for thing in things) for _, ranks in known})
                many += len(wanted)
                check_same(self, vectors_of(stream, things), wanted)
            self.check_short_list(stream, known)
        self.assertGreater(many, 300)

    def check_short_list(self, stream, known):
        entries = list_of(stream.catalog, stream.plan)
        wanted = [entry for at, entry in enumerate(entries)
                  if any(sign(ranks[entry[0]], 0, 1) and not any(sign(ranks[column], 0, 1) for column, _ in entries[:at]) for _, ranks in known)]
        found = short_list(stream)
        self.assertIs(type(found), Order)
        self.assertEqual(list(found.entries), wanted)

    def test_short_lists(self):
        for stream, text in ((stream_of(), "r.b, r.coming, s.d, s.coming"), (stream_of(rules={"r": [("key", ("b",))], "s": [("key", ("b",))]}), "r.b"),
                             (days(("index", "r", "by"), filters=[("r.day", "=", 1)]), "r.coming"), (days(rules=[("key", ())]), "none"),
                             (days(("sort", (("r.day", "up"), ("r.month", "down")), READ)), "r.day, r.coming"),
                             (days(("sort", (("r.month", "up"), ("r.day", "down")), READ), rules=[("key", ("day",))]), "r.month, r.day down")):
            check_same(self, str(short_list(stream)), text)

    def test_vectors(self):
        self.assertEqual(vectors_of(days(("index", "r", "by")), ["r.day", "r.month"]), [(-1, -1), (-1, 0), (0, 0)])
        self.assertEqual(vectors_of(things=("r.coming",), stream=days()), [(-1,)])
        self.assertEqual(vectors_of(days(), []), [()])
        self.assertEqual(vectors_of(days(rules=[("key", ())]), []), [])

    def test_errors(self):
        stream = stream_of()
        for value in odd_values():
            check_error(self, UnknownName, {"value": value}, vectors_of, stream, ["r.a", value])
        check_error(self, UnknownName, {"value": "r.a"}, vectors_of, stream, ["r.a", "r.a", "z"])
        check_error(self, UnknownName, {"value": "t.d"}, vectors_of, stream, [*stream.things, "t.d"])
        check_error(self, TooMany, {"kind": "things", "limit": 6}, vectors_of, stream, list(stream.things))
        things = list(stream.things[:6])
        vectors_of(stream, things).clear()
        self.assertTrue(vectors_of(stream, things))
        self.assertEqual(things, list(stream.things[:6]))


class Sequences(unittest.TestCase):
    def check(self, one, other, same):
        found = same_sequence(one, other)
        if same:
            check_true(self, found)
            return
        check_true(self, is_free_world(one, found))
        self.assertEqual(found.size, 2)
        signs = [sign_by(found.ranks, list_of(stream.catalog, stream.plan), 0, 1) for stream in (one, other)]
        self.assertNotEqual(*signs)

    def test_examples(self):
        sorted_heap = ("sort", (("r.b", "up"), ("r.a", "down")), READ)
        self.check(stream_of(READ), stream_of(READ), True)
        self.check(stream_of(("index", "r", "by")), stream_of(sorted_heap), True)
        self.check(stream_of(READ), stream_of(sorted_heap), False)
        self.check(stream_of(READ), stream_of(("sort", (), READ)), True)
        self.check(stream_of(TWO), stream_of(("merge", (("s.b", "r.b", "up"),), ("index", "s", "bd"), ("sort", (("r.b", "up"),), READ))), False)
        self.check(stream_of(TWO), stream_of(("seek", ("sort", (("r.b", "up"),), READ), "s", "bd", 1)), True)
        rules = {"r": [("key", ("b",))], "s": [("key", ("b",))]}
        self.check(stream_of(TWO, rules=rules), stream_of(("merge", (("s.b", "r.b", "up"),), ("index", "s", "bd"), ("index", "r", "by")), rules=rules), True)
        self.check(days(filters=[("r.day", "=", 2)]), days(("index", "r", "by"), filters=[("r.day", "=", 2)]), True)

    def test_by_chance(self):
        dice, seen = random.Random(47), {True: 0, False: 0}
        for _ in range(120):
            catalog, query = random_setting(dice, most_tables=2, most_columns=(2, 2))
            tables = dice.choice(sequences(query))
            other = dice.choice([chosen for chosen in sequences(query) if sorted(chosen) == sorted(tables)])
            one, other = [Stream(catalog, query, random_stream(dice, catalog, query, chosen)) for chosen in (tables, other)]
            free = [ranks for marks, ranks in all_forms(query, one.tables, 2, True) if is_free(catalog, query, one.tables, 2, marks, ranks)]
            wanted = not any(sign_by(ranks, one.order.entries, 0, 1) != sign_by(ranks, other.order.entries, 0, 1) for ranks in free)
            seen[wanted] += 1
            self.check(one, other, wanted)
            self.assertEqual(same_sequence(one, other), same_sequence(other=other, one=one))
            if wanted:
                database = random_database(dice, catalog)
                rows = [[[row[tables_in(stream.plan).index(table)] for table in one.tables] for row in stream_rows(database, query, stream.plan)]
                        for stream in (one, other)]
                self.assertEqual(*rows)
        self.assertGreater(min(seen.values()), 20, seen)

    def test_unlike(self):
        stream = stream_of(READ)
        for other in (stream_of(("heap", "s")), stream_of(TWO), stream_of(READ, query_of(first=3)), stream_of(READ, rules={"t": [("key", ())]})):
            check_error(self, Unlike, {}, same_sequence, stream, other)
            check_error(self, Unlike, {}, same_sequence, other, stream)


if __name__ == "__main__":
    unittest.main()
