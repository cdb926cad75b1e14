"""[22] and [4]: reasons, when one is right, and what it rests on."""

import copy
import random
import unittest
from itertools import combinations, product

from pairsigns.errors import InvalidQuestion
from pairsigns.questions import ask
from pairsigns.reasons import is_reason, rests_on
from pairsigns.rules import Rules
from pairsigns.streams import Stream
from pairsigns.tables import Catalog
from tests.plan_samples import catalog_of, groups_of, list_of, query_of, random_setting, random_stream, references_to, table_of
from tests.question_samples import likely_question, random_question, size_of
from tests.rule_samples import rows_break, rows_with, spoilt
from tests.samples import check_error, check_false, check_same, check_true, odd_values
from tests.world_samples import MARKS, part_group, room, sign, weak_orders

READ = ("heap", "r")
ASKED, LISTED = ("ends", ("asked",)), ("ends", ("list",))


class Definition:
    """[22], for one stream and question: decided is a dict from tables, and tuples of things of one class, to cases."""

    def __init__(self, stream, question):
        self.stream, self.question, self.size = stream, question, size_of(question)
        self.pairs = list(combinations(range(self.size), 2))
        groups = [tuple(sorted(group)) for group in groups_of(stream.query, stream.tables)]
        self.group_of = {thing: group for group in groups for thing in group} | {f"{table}.coming": (f"{table}.coming",) for table in stream.tables}

    def sign(self, decided, thing, one, other):
        group = self.group_of[thing]
        if group in decided:
            return sign(decided[group], one, other)
        same = [table for table in map(table_of, group) if table in decided and decided[table][one] == decided[table][other]]
        return 0 if same else None

    def sign_by(self, decided, entries, one, other):
        """-1, 0 or 1 as far as the entries decide it in sequence, otherwise None."""
        for thing, direction in entries:
            found = self.sign(decided, thing, one, other)
            if found is None or found:
                return found and found * (1 if direction == "up" else -1)
        return 0

    def right(self, value, decided=None):
        decided = decided or {}
        if not isinstance(value, tuple) or not value or not isinstance(value[0], str):
            return False
        if value[0] == "ends":
            return len(value) == 2 and self.true(decided, value[1])
        if value[0] != "split" or len(value) != 3 or not isinstance(value[1], str) or not isinstance(value[2], tuple):
            return False
        key = value[1] if value[1] in self.stream.tables else self.group_of.get(value[1])
        cases = MARKS[self.size] if key in self.stream.tables else weak_orders(self.size)
        if key is None or key in decided or len(value[2]) != len(cases):
            return False
        return all(self.right(part, decided | {key: case}) for case, part in zip(cases, value[2]))

    def true(self, decided, why):
        if not isinstance(why, tuple) or not why or not isinstance(why[0], str):
            return False
        if why in (("asked",), ("list",)):
            return self.asked(decided) if why == ("asked",) else any(
                self.sign_by(decided, list_of(self.stream.catalog, self.stream.plan), one, other) in (0, 1) for one, other in self.pairs)
        if why[0] == "rule" and len(why) == 3:
            return isinstance(why[1], str) and why[1] in self.stream.tables and self.rule(decided, why[1], why[2])
        if len(why) != 2 or not isinstance(why[1], str) or why[1] not in self.group_of or why[0] not in ("same", "room"):
            return False
        return self.same(decided, why[1]) if why[0] == "same" else self.room(decided, why[1])

    def asked(self, decided):
        word, rest = self.question[0], self.question[1:]

        def differ(things, one, other):
            return any(self.sign(decided, thing, one, other) in (-1, 1) for thing in things)

        if word == "sorted":
            return self.sign_by(decided, rest[0], 0, 1) in (-1, 0)
        if word == "key":
            return differ(rest[0], 0, 1)
        if word == "determines":
            return differ(rest[0], 0, 1) or self.sign(decided, rest[1], 0, 1) == 0
        if word == "constant":
            return self.sign(decided, rest[0], 0, 1) == 0
        return word == "together" and (differ(rest[0], 0, 2) or all(self.sign(decided, thing, 0, 1) == 0 for thing in rest[0]))

    def rule(self, decided, table, rule):
        rules = self.stream.catalog.rules_of(table)
        if not isinstance(rule, tuple) or repr(rule) not in [repr(kept) for kept in rules.rules] or table not in decided:
            return False
        things = [*references_to(self.stream.query, table), f"{table}.coming"]
        for one, other in self.pairs:
            if decided[table][one] != decided[table][other]:
                signs = [self.sign(decided, thing, one, other) for thing in things]
                vectors = [vector for vector in product((-1, 0, 1), repeat=len(things)) if vector[-1] and all(
                    told in (None, found) for told, found in zip(signs, vector))]
                if all(rows_break(rule, *rows_with(rules.columns, vector)) for vector in vectors):
                    return True
        return False

    def same(self, decided, thing):
        table, group = table_of(thing), self.group_of[thing]
        if table not in decided or group not in decided:
            return False
        for one, other in self.pairs:
            same, found = decided[table][one] == decided[table][other], sign(decided[group], one, other)
            if same and found or thing.endswith(".coming") and not same and not found:
                return True
        return False

    def room(self, decided, reference):
        group = self.group_of[reference]
        if reference.endswith(".coming") or group not in decided:
            return False
        return len(set(decided[group])) > room(self.stream.query, part_group(self.stream.query, reference))


def table_stream(rules=(), filters=(), plan=READ, columns=(("a", "number"), ("b", "number"))):
    catalog = Catalog([("r", Rules(columns, rules), [("by", [("a", "up")])])])
    return Stream(catalog, query_of(("r",), catalog, equalities=[], wanted=("r.a",), filters=filters), plan)


class ReasonTests(unittest.TestCase):
    def check(self, stream, question, value, wanted):
        check_same(self, Definition(stream, question).right(value), wanted)
        check_same(self, is_reason(stream, question, value), wanted)
        check_same(self, is_reason(value=value, question=question, stream=stream), wanted)

    def rule(self, table, rule):
        return ("ends", ("rule", table, rule))


class Ends(ReasonTests):
    def test_asked(self):
        stream = table_stream()
        self.check(stream, ("sorted", ()), ASKED, True)
        self.check(stream, ("together", ()), ASKED, True)
        for question in (("sorted", (("r.a", "up"),)), ("key", ()), ("determines", (), "r.a"), ("constant", "r.a"), ("single",), ("empty",),
                         ("together", ("r.a",))):
            self.check(stream, question, ASKED, False)

    def test_asked_behind_splits(self):
        stream = table_stream(plan=("index", "r", "by"))
        question = ("sorted", (("r.a", "up"),))
        self.check(stream, question, ("split", "r.a", (ASKED, ASKED, LISTED)), True)
        self.check(stream, question, ("split", "r.a", (ASKED, LISTED, LISTED)), False)
        self.check(stream, question, ("split", "r.a", (LISTED, ASKED, LISTED)), False)
        self.check(stream, question, ("split", "r.a", (ASKED, ASKED, ASKED)), False)
        self.check(stream, ("sorted", (("r.a", "down"),)), ("split", "r.a", (ASKED, ASKED, LISTED)), False)
        self.check(stream, ("determines", ("r.a",), "r.a"), ("split", "r.a", (ASKED, ASKED, ASKED)), True)
        self.check(stream, ("constant", "r.a"), ("split", "r.a", (ASKED, ASKED, LISTED)), False)

    def test_entries_are_gone_through_in_sequence(self):
        stream = table_stream(plan=("index", "r", "by"))
        question = ("sorted", (("r.a", "up"), ("r.coming", "up")))
        inner = ("split", "r.coming", (LISTED, ASKED, LISTED))
        self.check(stream, question, ("split", "r.a", (inner, ASKED, LISTED)), True)
        self.check(stream, question, inner, False)
        self.check(stream, question, ("split", "r.coming", (("split", "r.a", (LISTED, ASKED, LISTED)), ("split", "r.a", (ASKED, ASKED, LISTED)),
                                                            ("split", "r.a", (LISTED, ASKED, LISTED)))), True)

    def test_marks_decide(self):
        stream = table_stream([("key", ("a",))])
        question = ("key", ("r.a",))
        key = self.rule("r", ("key", ("a",)))
        self.check(stream, question, ("split", "r", (LISTED, ("split", "r.a", (key, ASKED, ASKED)))), True)
        self.check(stream, question, ("split", "r", (LISTED, key)), False)
        self.check(stream, question, ("split", "r.a", (key, ASKED, ASKED)), False)
        self.check(stream, question, ("split", "r.a", (("split", "r", (LISTED, key)), ASKED, ASKED)), True)
        self.check(stream, question, ("split", "r.a", (("split", "r", (key, key)), ASKED, ASKED)), False)
        self.check(stream, ("constant", "r.a"), ("split", "r", (ASKED, ASKED)), False)

    def test_marks_decide_whole_classes(self):
        stream = Stream(catalog_of(), query_of(("r", "s")), ("seek", READ, "s", "bd", 1))
        question = ("determines", ("r.coming",), "s.b")
        same = ("split", "r", (ASKED, ("split", "r.coming", (("ends", ("same", "r.coming")), ASKED, ASKED))))
        self.check(stream, question, same, True)
        self.check(stream, ("determines", ("r.coming",), "s.d"), same, False)
        self.check(stream, ("determines", ("s.coming",), "r.b"), ("split", "s", (ASKED, ("split", "s.coming", (
            ("ends", ("same", "s.coming")), ASKED, ASKED)))), True)

    def test_same(self):
        stream = table_stream()
        question = ("determines", ("r.coming",), "r.a")
        same = ("ends", ("same", "r.a"))
        self.check(stream, question, ("split", "r", (("split", "r.a", (ASKED, same, same)), ("split", "r.coming", (
            ("ends", ("same", "r.coming")), ASKED, ASKED)))), True)
        self.check(stream, question, ("split", "r", (("split", "r.a", (same, same, same)), ("split", "r.coming", (
            ("ends", ("same", "r.coming")), ASKED, ASKED)))), False)
        self.check(stream, question, ("split", "r", (ASKED, ("split", "r.a", (ASKED, same, same)))), False)
        self.check(stream, question, ("split", "r", (("ends", ("same", "r.b")), ASKED)), False)

    def test_room(self):
        stream = table_stream(filters=[("r.a", "=", 1)])
        one = ("ends", ("room", "r.a"))
        self.check(stream, ("constant", "r.a"), ("split", "r.a", (ASKED, one, one)), True)
        self.check(stream, ("constant", "r.a"), ("split", "r.a", (one, one, one)), False)
        self.check(stream, ("constant", "r.a"), one, False)
        none = table_stream(filters=[("r.a", "<", 1), ("r.a", ">", 1)])
        self.check(none, ("empty",), ("split", "r.a", (one,)), True)
        self.check(none, ("single",), ("split", "r.a", (one, one, one)), True)
        self.check(none, ("empty",), ("split", "r.b", (one,)), False)
        two = table_stream(filters=[("r.a", "<", 3), ("r.a", ">", 0)])
        question = ("together", ("r.a",))
        for at, order in enumerate(weak_orders(3)):
            parts = [one if len(set(ranks)) == 3 else LISTED for ranks in weak_orders(3)]
            self.check(two, question, ("split", "r.a", tuple(parts)), False)
            self.assertEqual(Definition(two, question).true({("r.a",): order}, ("room", "r.a")), len(set(order)) == 3, at)

    def test_rules(self):
        rule = ("orders", (("a", "up"),), (("b", "up"),))
        stream = table_stream([rule, ("key", ("b",))], plan=("index", "r", "by"))
        broken = self.rule("r", rule)
        question = ("sorted", (("r.b", "up"),))
        inner = ("split", "r.b", (ASKED, ASKED, broken))
        reason = ("split", "r", (LISTED, ("split", "r.a", (inner, inner, LISTED))))
        self.check(stream, question, reason, True)
        for other in (self.rule("r", ("key", ("b",))), self.rule("s", rule), self.rule("r", ("key", ("a",))), ("ends", ("rule", "r")),
                      ("ends", ("rule", "r", rule, ())), ("ends", ("rule", "r", list(rule))), ("ends", ("rule", "r", None))):
            wrong = ("split", "r.b", (ASKED, ASKED, other))
            self.check(stream, question, ("split", "r", (LISTED, ("split", "r.a", (inner, wrong, LISTED)))), False)

    def test_rules_that_no_vector_can_keep(self):
        """If there is no vector of two different rows, all of them break the rule."""
        stream = table_stream([("key", ("a",))])
        vain = self.rule("r", ("key", ("a",)))
        self.check(stream, ("determines", ("r.coming",), "r.b"), ("split", "r", (ASKED, ("split", "r.coming", (vain, ASKED, ASKED)))), True)
        empty = table_stream([("key", ())])
        self.check(empty, ("single",), ("split", "r", (LISTED, self.rule("r", ("key", ())))), True)
        never = ("never", (("coming", 1),))
        self.check(table_stream([never]), ("single",), ("split", "r", (LISTED, self.rule("r", never))), True)

    def test_three_rows(self):
        stream = table_stream(plan=("index", "r", "by"))
        question = ("together", ("r.a",))
        parts = []
        for ranks in weak_orders(3):
            parts.append(ASKED if ranks[0] != ranks[2] or ranks[0] == ranks[1] else LISTED)
        self.check(stream, question, ("split", "r.a", tuple(parts)), True)
        for at in range(13):
            other = list(parts)
            other[at] = LISTED if parts[at] == ASKED else ASKED
            ranks = weak_orders(3)[at]
            falls = any(sign(ranks, one, later) == 1 for one, later in combinations(range(3), 2))
            self.check(stream, question, ("split", "r.a", tuple(other)), other[at] == LISTED and falls)
        self.check(stream, question, ("split", "r", (ASKED,) * 5), False)


class Forms(ReasonTests):
    def test_values_of_other_kinds(self):
        stream = table_stream(plan=("index", "r", "by"))
        question = ("sorted", (("r.a", "up"),))
        for value in odd_values():
            for reason in (value, ("ends", value), ("ends", (value,)), ("split", value, (ASKED, ASKED, LISTED)), ("split", "r.a", value),
                           ("split", "r.a", (ASKED, ASKED, value)), ("ends", ("room", value)), ("ends", ("same", value)),
                           ("ends", ("rule", value, ("key", ()))), ("ends", ("rule", "r", value)), (value, ("asked",))):
                self.check(stream, question, reason, False)

    def test_wrong_forms(self):
        stream = table_stream(plan=("index", "r", "by"))
        question = ("sorted", (("r.a", "up"),))
        good = ("split", "r.a", (ASKED, ASKED, LISTED))
        self.check(stream, question, good, True)
        for value in (list(good), ("split", "r.a", [ASKED, ASKED, LISTED]), ("split", "r.a", (ASKED, ASKED)), ("split", "r.a", (ASKED, ASKED, LISTED, LISTED)),
                      ("split", "r.z", good[2]), ("split", "s.a", good[2]), ("split", "a", good[2]), ("split", "s", (ASKED, ASKED)), good + ((),),
                      ("split", "r.a", (ASKED, ASKED, ["ends", ("list",)])), ("split", "r.a", (ASKED, ASKED, ("ends", ["list"]))),
                      ("split", "r.a", (ASKED, ASKED, ("ends", "list"))), ("split", "r.a", (ASKED, ASKED, ("ends", ("list",), ()))),
                      ("split", "r.a", (ASKED, ASKED, ("ends", ("list", ())))), ("split", "coming", good[2]), ("split", ("r.a",), good[2]),
                      ("split", "r.a", (good, ASKED, LISTED)), ("ends",), (), ("ends", ()), ("Split", "r.a", good[2]), ASKED, LISTED):
            self.check(stream, question, value, False)

    def test_no_class_stands_twice(self):
        stream = Stream(catalog_of(), query_of(("r", "s")), ("seek", ("index", "r", "by"), "s", "bd", 1))
        question = ("sorted", (("r.b", "up"),))
        self.check(stream, question, ("split", "s.b", (ASKED, ASKED, LISTED)), True)
        self.check(stream, question, ("split", "s.b", (("split", "r.b", (ASKED, ASKED, LISTED)), ASKED, LISTED)), False)
        self.check(stream, question, ("split", "s.b", (("split", "s.b", (ASKED, ASKED, LISTED)), ASKED, LISTED)), False)
        self.check(stream, question, ("split", "s.b", (("split", "s.d", (ASKED, ASKED, ASKED)), ASKED, LISTED)), True)
        self.check(stream, question, ("split", "s", (("split", "s", (ASKED, ASKED)), ("split", "s.b", (ASKED, ASKED, LISTED)))), False)
        self.check(stream, question, ("split", "s", (ASKED, ("split", "s.b", (ASKED, ASKED, LISTED)))), True)

    def test_invalid_questions(self):
        stream = table_stream()
        for value in odd_values():
            check_error(self, InvalidQuestion, {}, is_reason, stream, value, ASKED)
        check_error(self, InvalidQuestion, {}, is_reason, stream, ("key", ("s.b",)), None)


class ByChance(ReasonTests):
    def reasons(self, seed, many):
        """Yields streams, questions and reasons that ask returned."""
        dice = random.Random(seed)
        for _ in range(many):
            catalog, query = random_setting(dice)
            stream = Stream(catalog, query, random_stream(dice, catalog, query))
            for _ in range(5):
                question = random_question(dice, list(stream.things))
                if dice.random() < 0.5:
                    question = likely_question(dice, list(stream.things), list(stream.order.entries))
                answer = ask(stream, question)
                if answer:
                    yield stream, question, answer.reason

    def test_returned_reasons_are_right(self):
        many = 0
        for stream, question, reason in self.reasons(51, 120):
            many += 1
            self.check(stream, question, reason, True)
        self.assertGreater(many, 200)

    def test_reasons_with_a_part_changed(self):
        dice, seen = random.Random(52), {True: 0, False: 0}
        for stream, question, reason in self.reasons(53, 50):
            rules = [(table, rule) for table in stream.tables for rule in stream.catalog.rules_of(table).rules]
            others = [ASKED, LISTED, ("asked",), ("list",), "r", "r.a", "ends", (), stream.things[0], stream.things[-1], reason,
                      ("ends", ("same", dice.choice(stream.things))), ("ends", ("room", dice.choice(stream.references)))]
            others += [("ends", ("rule", table, rule)) for table, rule in dice.sample(rules, min(2, len(rules)))]
            values = list(spoilt(reason, others)) if len(repr(reason)) < 1500 else []
            for value in dice.sample(values, min(40, len(values))):
                wanted = Definition(stream, question).right(value)
                seen[wanted] += 1
                check_same(self, is_reason(stream, question, value), wanted)
        self.assertGreater(min(seen.values()), 100, seen)

    def test_reasons_with_parts_exchanged(self):
        dice, seen = random.Random(54), {True: 0, False: 0}
        for stream, question, reason in self.reasons(55, 60):
            for _ in range(6):
                value = self.exchanged(dice, reason)
                wanted = Definition(stream, question).right(value)
                seen[wanted] += 1
                check_same(self, is_reason(stream, question, value), wanted)
        self.assertGreater(min(seen.values()), 50, seen)

    def exchanged(self, dice, reason):
        """The reason with two parts of one of its splits exchanged."""
        if reason[0] == "ends":
            return reason
        parts = list(reason[2])
        one, other = dice.randrange(len(parts)), dice.randrange(len(parts))
        if parts[one][0] == "split" and dice.random() < 0.6:
            parts[one] = self.exchanged(dice, parts[one])
        else:
            parts[one], parts[other] = parts[other], parts[one]
        return (reason[0], reason[1], tuple(parts))

    def test_reasons_for_other_questions(self):
        dice, seen = random.Random(56), {True: 0, False: 0}
        for stream, question, reason in self.reasons(57, 60):
            for _ in range(4):
                other = random_question(dice, list(stream.things))
                wanted = Definition(stream, other).right(reason)
                seen[wanted] += 1
                check_same(self, is_reason(stream, other, reason), wanted)
        self.assertGreater(min(seen.values()), 10, seen)

    def test_right_reasons_are_only_for_yes(self):
        dice = random.Random(58)
        for stream, question, reason in self.reasons(59, 40):
            other = random_question(dice, list(stream.things))
            if is_reason(stream, other, reason):
                self.assertTrue(ask(stream, other))

    def test_rests_on(self):
        many = 0
        for _, _, reason in self.reasons(60, 60):
            kept = copy.deepcopy(reason)
            whys = {repr(why): why for why in self.whys(reason) if why[0] in ("rule", "room")}
            wanted = [whys[text] for text in sorted(whys)]
            many += len(wanted)
            check_same(self, rests_on(reason), wanted)
            rests_on(reason).append(1)
            check_same(self, rests_on(reason=reason), wanted)
            self.assertEqual(reason, kept)
        self.assertGreater(many, 50)

    def whys(self, reason):
        return [reason[1]] if reason[0] == "ends" else [why for part in reason[2] for why in self.whys(part)]

    def test_what_it_rests_on_is_enough(self):
        """With the rules that a reason rests on alone the answer is still yes."""
        for stream, question, reason in self.reasons(61, 60):
            catalog = stream.catalog
            needed = [why[1:] for why in rests_on(reason) if why[0] == "rule"]
            for table in catalog.tables:
                rules = catalog.rules_of(table)
                catalog = catalog.with_rules(table, Rules(rules.columns, [rule for rule in rules.rules if (table, rule) in needed]))
            less = Stream(catalog, stream.query, stream.plan)
            check_true(self, is_reason(less, question, reason))
            check_true(self, bool(ask(less, question)))

    def test_examples(self):
        key, order = ("key", ("a",)), ("orders", (("a", "up"),), (("b", "up"),))
        stream = table_stream([key, order, ("key", ("b",))], filters=[("r.a", "=", 2)])
        for question, wanted in ((("sorted", ()), []), (("constant", "r.a"), [("room", "r.a")]), (("sorted", (("r.coming", "up"),)), [])):
            check_same(self, rests_on(ask(stream, question).reason), wanted)
        unfiltered = table_stream([key, order])
        check_same(self, rests_on(ask(unfiltered, ("key", ("r.a",))).reason), [("rule", "r", key)])
        check_same(self, rests_on(("split", "r.a", (("ends", ("rule", "r", order)), ("ends", ("room", "r.a")), ("ends", ("rule", "r", key))))),
                   [("room", "r.a"), ("rule", "r", key), ("rule", "r", order)])
        check_false(self, is_reason(unfiltered, ("constant", "r.a"), ASKED))


if __name__ == "__main__":
    unittest.main()
