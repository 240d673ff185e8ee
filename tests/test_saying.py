"""Points 16 and 17: says, needed, must_branch, usable and is_bar."""

import copy
import inspect
import random
import unittest

from samples import ORDERS, SCHEMA, chance_flat, chance_schema, chance_tree, repeats_a_list, share_a_list
from search import (ascending_lists, chance_clues, chance_columns, chance_rows, check_answer, check_knot, explains,
                    flat_rules, has_rule, says_of, steps_of, told_clues)
from wrong import NO_NUMBERS

from sortclues import saying
from sortclues.errors import Unexplained
from sortclues.finding import find, is_knot
from sortclues.listing import all_rules
from sortclues.rules import is_flat
from sortclues.saying import is_bar, must_branch, needed, says, usable

UP = [("up first",), ("up first",)]
BOTH_WAYS = [("up first",), ("up first", "down first")]
CROSSED = [("ahead", (1, 1), (1, 2)), ("ahead", (2, 2), (2, 1))]
NEVER = [("ahead", (1, 1), (1, 1))]


class TheExample(unittest.TestCase):
    def test_point_18(self):
        clues = [("ahead", (1, 2), (2, 1))]
        told = says(UP, clues, (1, 9), (2, 0))
        got = [told[0][0], told[1][0], told[2][0], needed(UP, clues), usable(UP, clues, (1, "up first"))[0],
               usable(UP, clues, (1, "up first"), before=(0,)), is_bar(UP, clues, (1, "up first"), [0])]
        self.assertEqual(got, ["rule", "knot", "knot", [(0, [0])], "rule", ("bar", [0]), False])
        self.assertEqual(must_branch(BOTH_WAYS, CROSSED), [(0, [0, 1])])


class Interface(unittest.TestCase):
    def test_names_and_arguments(self):
        listed = {"says": "(schema, clues, x, y, *, branching=())", "needed": "(schema, clues, *, branching=())",
                  "must_branch": "(schema, clues)", "usable": "(schema, clues, step, *, before=())",
                  "is_bar": "(schema, clues, step, numbers, *, before=())"}
        for name, arguments in listed.items():
            function = getattr(saying, name)
            self.assertEqual(str(inspect.signature(function)), arguments)
            self.assertEqual(function.__module__, "sortclues.saying")

    def test_arguments_by_name(self):
        step = (1, "up first")
        self.assertEqual(says(branching=(0,), y=(2, 0), x=(1, 9), clues=[], schema=UP),
                         says(UP, [], (1, 9), (2, 0), branching=(0,)))
        self.assertEqual(needed(branching=(), clues=CROSSED[:1], schema=UP), [(1, [0])])
        self.assertEqual(must_branch(clues=CROSSED, schema=BOTH_WAYS), [(0, [0, 1])])
        self.assertEqual(usable(before=(0,), step=step, clues=[], schema=UP), ("rule", [step]))
        self.assertIs(is_bar(before=(0,), numbers=[0], step=step, clues=CROSSED[1:], schema=UP), True)

    def test_columns_by_name_only(self):
        self.assertRaises(TypeError, says, UP, [], (1, 1), (1, 1), ())
        self.assertRaises(TypeError, needed, UP, [], ())
        self.assertRaises(TypeError, usable, UP, [], (0, "up first"), ())
        self.assertRaises(TypeError, is_bar, UP, [], (0, "up first"), [], ())


class Base(unittest.TestCase):
    def unchanged(self, function, schema, clues, *others, **named):
        """What the function returns; its arguments stay as they were and none is part of the result."""
        before = copy.deepcopy((schema, clues, others, named))
        got = function(schema, clues, *others, **named)
        self.assertEqual((schema, clues, others, named), before)
        self.assertFalse(repeats_a_list(got))
        self.assertFalse(share_a_list(got, [schema, clues, list(others)]))
        again = function(schema, clues, *others, **named)
        self.assertEqual(again, got)
        self.assertFalse(share_a_list(again, got))
        return got

    def explained(self, chance, many=6):
        """A schema, clues that a rule explains, and columns for branching."""
        while True:
            schema = chance_schema(chance, 3)
            tree = chance.choice([chance_flat(chance, schema), chance_tree(chance, schema, [None, 0, 1])])
            clues = told_clues(chance, schema, tree, chance.randint(0, many))
            branching = chance.choice([(), chance_columns(chance, schema), tuple(range(len(schema)))])
            if has_rule(schema, clues, branching):
                return schema, clues, branching


class Says(Base):
    def says(self, schema, clues, x, y, branching=()):
        """The words of the three answers, which are checked."""
        got = self.unchanged(says, schema, clues, x, y, branching=branching)
        self.assertEqual((type(got), len(got)), (list, 3))
        added = [("ahead", x, y), ("alike", x, y), ("ahead", y, x)]
        words = []
        for answer, clue in zip(got, added):
            words.append(check_answer(self, schema, clues + [clue], answer, branching))
            self.assertEqual(answer, find(schema, clues + [clue], branching=branching))
        return words

    def test_no_clues(self):
        for branching in ((), (0,), (1, 0)):
            self.assertEqual(self.says(BOTH_WAYS, [], (1, 1), (1, 2), branching), ["rule"] * 3)
            self.assertEqual(self.says(UP, [], (1, 1), (1, 2), branching), ["rule", "rule", "knot"])
            self.assertEqual(self.says(UP, [], (1, 1), (1, 1), branching), ["knot", "rule", "knot"])

    def test_two_knots_where_all_rules_say_the_same(self):
        clues = [("ahead", (1, 2), (2, 1)), ("alike", (3, 1), (3, 2))]
        for branching in ((), (1,)):
            self.assertEqual(self.says(UP, clues, (5, 9), (7, 0), branching), ["rule", "knot", "knot"])
            self.assertEqual(self.says(UP, clues, (7, 0), (5, 9), branching), ["knot", "knot", "rule"])
            self.assertEqual(self.says(UP, clues, (7, 0), (7, 5), branching), ["knot", "rule", "knot"])
        self.assertEqual(self.says(UP, clues, (7, 0), (7, 5), (0,)), ["rule", "rule", "knot"])
        self.assertEqual(says(UP, clues[:1], (7, 0), (5, 9))[0], ("knot", [0, 1]))

    def test_against_all_rules(self):
        chance = random.Random(51)
        seen = {}
        for _ in range(300):
            schema, clues, branching = self.explained(chance)
            x, y = chance_rows(chance, schema, [None, 0, 1])
            words = self.says(schema, clues, x, y, branching)
            for word, clue in zip(words, [("ahead", x, y), ("alike", x, y), ("ahead", y, x)]):
                self.assertEqual(word == "rule", has_rule(schema, clues + [clue], branching))
            seen[tuple(words)] = seen.get(tuple(words), 0) + 1
        self.assertEqual(len(seen), 7, seen)

    def test_unexplained(self):
        for branching in ((), (1,)):
            self.assertRaises(Unexplained, says, BOTH_WAYS, CROSSED, (1, 1), (2, 2), branching=branching)
            self.assertRaises(Unexplained, says, UP, NEVER, (1, 1), (2, 2), branching=branching)
        self.assertEqual(len(says(BOTH_WAYS, CROSSED, (1, 1), (2, 2), branching=(0,))), 3)


class Needed(Base):
    def needed(self, schema, clues, branching=()):
        """The columns that are needed, each knot checked."""
        got = self.unchanged(needed, schema, clues, branching=branching)
        self.assertIs(type(got), list)
        for pair in got:
            self.assertEqual((type(pair), len(pair), type(pair[0])), (tuple, 2, int))
            check_knot(self, schema, clues, pair[1], branching, (pair[0],))
        columns = [column for column, _ in got]
        self.assertEqual(columns, sorted(set(columns)))
        return columns

    def test_no_clues(self):
        for branching in ((), (1,), (0, 1)):
            self.assertEqual(self.needed(UP, [], branching), [])

    def test_none_one_and_all_columns(self):
        only = [("ahead", (1, 1, 5), (1, 1, 6)), ("ahead", (1, 3, 0), (1, 2, 0)), ("not behind", (0, 0, 0), (1, 0, 0))]
        for branching in ((), (2,), (1, 0, 2)):
            self.assertEqual(self.needed(SCHEMA, only[2:], branching), [])
            self.assertEqual(self.needed(SCHEMA, only[1:], branching), [1])
            self.assertEqual(self.needed(SCHEMA, only, branching), [1, 2])
            self.assertEqual(self.needed(SCHEMA, only + [("ahead", (0, 2, 1), (1, 2, 1))], branching), [0, 1, 2])

    def test_a_column_that_must_close_what_another_is_against(self):
        self.assertEqual(self.needed(UP, [("ahead", (1, 2), (2, 1))]), [0])
        self.assertEqual(self.needed(UP, [("ahead", (1, 2), (2, 1)), ("ahead", (1, 1), (1, 2))]), [0, 1])

    def test_a_column_that_is_needed_for_its_branches(self):
        clues = [("ahead", (1, 1, 5), (1, 2, 5)), ("ahead", (2, 2, 5), (2, 1, 5))]
        schema = [("up first",), ("up first", "down first"), ("up first",)]
        self.assertEqual(self.needed(schema, clues, (0, 2)), [0, 1])
        self.assertEqual(needed(schema, clues, branching=(2, 0))[0], (0, [0, 1]))

    def test_against_all_rules(self):
        chance = random.Random(52)
        sizes = {}
        for _ in range(300):
            schema, clues, branching = self.explained(chance, 12)
            got = self.needed(schema, clues, branching)
            expected = [column for column in range(len(schema))
                        if not has_rule(schema, clues, branching, (column,))]
            self.assertEqual(got, expected, (schema, clues, branching))
            if branching == ():
                rules = [{column for column, _ in flat} for flat in flat_rules(schema) if explains(flat, clues)]
                self.assertEqual(set(got), set.intersection(*rules))
            sizes[len(got)] = sizes.get(len(got), 0) + 1
        self.assertEqual(sorted(sizes), [0, 1, 2, 3])

    def test_unexplained(self):
        for branching in ((), (1,)):
            self.assertRaises(Unexplained, needed, BOTH_WAYS, CROSSED, branching=branching)
            self.assertRaises(Unexplained, needed, UP, NEVER, branching=branching)
        self.assertEqual(self.needed(BOTH_WAYS, CROSSED, (0,)), [0, 1])


class MustBranch(Base):
    def must_branch(self, schema, clues):
        """The columns where trees must branch, each knot checked."""
        got = self.unchanged(must_branch, schema, clues)
        self.assertIs(type(got), list)
        for pair in got:
            self.assertEqual((type(pair), len(pair), type(pair[0])), (tuple, 2, int))
            others = tuple(column for column in range(len(schema)) if column != pair[0])
            check_knot(self, schema, clues, pair[1], others)
        columns = [column for column, _ in got]
        self.assertEqual(columns, sorted(set(columns)))
        return columns

    def test_where_a_flat_rule_explains(self):
        for clues in ([], CROSSED[:1], [("alike", (1, 1), (2, 2))]):
            self.assertEqual(self.must_branch(BOTH_WAYS, clues), [])
        self.assertEqual(self.must_branch([("up first",)], [("ahead", (1,), (2,))]), [])

    def test_at_two_columns(self):
        schema = [("up first",), ("up first",), ("up first", "down last")]
        clues = [("ahead", (1, 0, 1), (1, 0, 2)), ("ahead", (2, 0, 2), (2, 0, 1)), ("ahead", (2, 1, 1), (2, 1, 2))]
        self.assertEqual(self.must_branch(schema, clues), [0, 1])
        self.assertEqual(self.must_branch(schema, clues[:2]), [0])
        self.assertEqual(self.must_branch(schema, clues[1:]), [1])
        either = [("ahead", (1, 1, 1), (1, 1, 2)), ("ahead", (2, 2, 2), (2, 2, 1))]
        self.assertEqual(self.must_branch(schema, either), [])

    def test_against_all_trees(self):
        chance = random.Random(53)
        sizes = {}
        for _ in range(400):
            schema = chance_schema(chance, 3)
            clues = told_clues(chance, schema, chance_tree(chance, schema, [None, 0, 1]), 9)
            got = self.must_branch(schema, clues)
            columns = range(len(schema))
            expected = [column for column in columns
                        if not has_rule(schema, clues, tuple(other for other in columns if other != column))]
            self.assertEqual(got, expected, (schema, clues))
            sizes[len(got)] = sizes.get(len(got), 0) + 1
        self.assertGreater(min(sizes[many] for many in (0, 1)), 20)

    def test_unexplained(self):
        for schema, clues in ((UP, NEVER), (UP, CROSSED), ([("up first",)], [("ahead", (2,), (1,))])):
            self.assertRaises(Unexplained, must_branch, schema, clues)


def is_real_bar(schema, clues, step, numbers, before):
    """Whether a list of numbers, different and ascending, is a bar (point 17)."""
    chosen = [clues[number] for number in numbers]
    if "against" not in [says_of(step, clue) for clue in chosen]:
        return False
    for other in steps_of(schema, before + (step[0],)):
        stances = {says_of(other, clue) for clue in chosen}
        if "against" not in stances and "for" in stances:
            return False
    return True


def has_step_first(flat, step, before):
    """Whether a flat rule has the step, and none of the columns before ahead of it."""
    return step in flat and not set(before) & {column for column, _ in flat[:flat.index(step)]}


class Usable(Base):
    def usable(self, schema, clues, step, before=()):
        """The word of the answer, which is checked."""
        got = self.unchanged(usable, schema, clues, step, before=before)
        self.assertEqual((type(got), len(got)), (tuple, 2))
        word, found = got
        self.assertIn(word, ("rule", "bar"))
        if word == "rule":
            self.assertIs(is_flat(schema, found), True)
            self.assertTrue(explains(found, clues), (schema, clues, step, before, found))
            self.assertTrue(has_step_first(found, step, before), (found, step, before))
        else:
            self.assertEqual(found, sorted(set(found)))
            self.assertEqual({type(number) for number in found}, {int})
            self.assertTrue(is_real_bar(schema, clues, step, found, before), (schema, clues, step, before, found))
            self.assertIs(is_bar(schema, clues, step, found, before=before), True)
        return word

    def test_no_clues(self):
        for step in steps_of(SCHEMA):
            for before in ((), (0,), (1, 2), (2, 1, 0)):
                self.assertEqual(usable(SCHEMA, [], step, before=before), ("rule", [step]))
                self.assertEqual(self.usable(SCHEMA, [], step, before), "rule")

    def test_a_step_that_another_one_makes_usable(self):
        clues = [("ahead", (1, 2), (2, 1))]
        step = (1, "up first")
        self.assertEqual(usable(UP, clues, step), ("rule", [(0, "up first"), step]))
        for before, expected in (((0,), "bar"), ((1,), "rule"), ((1, 0), "bar"), ((0, 1), "bar")):
            self.assertEqual(self.usable(UP, clues, step, before), expected)
        self.assertEqual(self.usable(UP, clues, (0, "up first"), (1,)), "rule")

    def test_a_step_that_no_rule_can_have(self):
        clues = [("not behind", (1, 2), (1, 1)), ("alike", (5, 5), (6, 5))]
        for before in ((), (0,), (1, 0)):
            self.assertEqual(self.usable(UP, clues, (0, "up first"), before), "bar")
            self.assertEqual(self.usable(UP, clues, (1, "up first"), before), "bar")
        self.assertEqual(usable(UP, clues[1:], (0, "up first")), ("bar", [0]))

    def test_a_step_of_the_same_column_does_not_help(self):
        clues = [("ahead", (1,), (2,))]
        for order, expected in (("up first", "rule"), ("up last", "rule"), ("down first", "bar"), ("down last", "bar")):
            self.assertEqual(self.usable([ORDERS], clues, (0, order)), expected)
            self.assertEqual(self.usable([ORDERS], clues, (0, order), (0,)), expected)

    def test_the_rule_goes_on_behind_the_step(self):
        clues = [("ahead", (1, 1, 1), (2, 1, 1)), ("ahead", (1, 2, 1), (1, 1, 1)), ("ahead", (1, 1, 2), (1, 1, 3))]
        for step in ((0, "up first"), (0, "up last"), (1, "down last"), (2, "up first"), (2, "up last")):
            for before in ((), (0, 1, 2)):
                self.assertEqual(self.usable(SCHEMA, clues, step, before), "rule")
                self.assertEqual({column for column, _ in usable(SCHEMA, clues, step, before=before)[1]}, {0, 1, 2})

    def test_against_all_flat_rules(self):
        chance = random.Random(54)
        many = {}
        for _ in range(250):
            schema = chance_schema(chance, 3)
            clues = told_clues(chance, schema, chance_flat(chance, schema), chance.randint(0, 7))
            rules = [flat for flat in flat_rules(schema) if explains(flat, clues)]
            for step in steps_of(schema):
                before = chance_columns(chance, schema)
                word = self.usable(schema, clues, step, before)
                expected = any(has_step_first(flat, step, before) for flat in rules)
                self.assertEqual(word == "rule", expected, (schema, clues, step, before))
                self.assertEqual(usable(schema, clues, step, before=before[::-1])[0], word)
                many[word, before == ()] = many.get((word, before == ()), 0) + 1
        self.assertGreater(min(many.values()), 40)
        self.assertEqual(len(many), 4)

    def test_six_columns(self):
        chance = random.Random(55)
        schema = [ORDERS] * 6
        for _ in range(30):
            flat = chance_flat(chance, schema)
            clues = told_clues(chance, schema, flat, 40, (None, 0, 1, 2))
            for step in chance.sample(steps_of(schema), 8):
                before = chance_columns(chance, schema)
                self.usable(schema, clues, step, before)
            for at, step in enumerate(flat):
                unused = [column for column in range(6) if column not in [column for column, _ in flat[:at]]]
                self.assertEqual(self.usable(schema, clues, step, tuple(unused)), "rule")

    def test_unexplained(self):
        for step in steps_of(BOTH_WAYS):
            for before in ((), (0,), (1, 0)):
                self.assertRaises(Unexplained, usable, BOTH_WAYS, CROSSED, step, before=before)
                self.assertRaises(Unexplained, usable, BOTH_WAYS, NEVER, step, before=before)


class IsBar(unittest.TestCase):
    def test_all_lists_of_numbers_of_clues_made_by_chance(self):
        chance = random.Random(56)
        many = {True: 0, False: 0}
        for _ in range(150):
            schema = chance_schema(chance, 3)
            clues = chance_clues(chance, schema, chance.randint(1, 4))
            for step in steps_of(schema):
                before = chance.choice([(), chance_columns(chance, schema)])
                for numbers in ascending_lists(clues):
                    got = is_bar(schema, clues, step, numbers, before=before)
                    self.assertIs(got, is_real_bar(schema, clues, step, numbers, before), (schema, clues, step, before))
                    many[got] += 1
        self.assertGreater(min(many.values()), 500)

    def test_a_bar_keeps_the_step_back_in_all_rules(self):
        chance = random.Random(57)
        for _ in range(60):
            schema = chance_schema(chance, 3)
            clues = told_clues(chance, schema, chance_flat(chance, schema), 4)
            rules = list(all_rules(schema, clues))
            for step in steps_of(schema):
                before = chance_columns(chance, schema)
                bars = [numbers for numbers in ascending_lists(clues)
                        if is_bar(schema, clues, step, numbers, before=before)]
                free = [flat for flat in rules if has_step_first(flat, step, before)]
                self.assertTrue(bars == [] or free == [])
                self.assertEqual(usable(schema, clues, step, before=before)[0], "bar" if bars else "rule")

    def test_anything_as_numbers(self):
        never = [("alike", (1, 1, 1), (2, 1, 1))] * 3
        for before in ((), (1, 0)):
            for numbers in ascending_lists(never):
                self.assertIs(is_bar(SCHEMA, never, (0, "up last"), numbers, before=before), True)
            for thing in NO_NUMBERS + [[]]:
                self.assertIs(is_bar(SCHEMA, never, (0, "up last"), thing, before=before), False, thing)
            self.assertIs(is_bar(SCHEMA, [], (0, "up last"), [0], before=before), False)
            self.assertIs(is_bar(SCHEMA, [], (0, "up last"), [], before=before), False)

    def test_a_bar_has_no_need_of_ahead_nor_of_a_rule(self):
        clues = [("not behind", (2, 1), (1, 1)), ("ahead", (1, 1), (1, 1))]
        for numbers, expected in (([0], True), ([0, 1], True), ([1], False)):
            self.assertIs(is_bar(UP, clues, (0, "up first"), numbers), expected)
            self.assertIs(is_bar(UP, clues, (1, "up first"), numbers), False)
            self.assertIs(is_knot(UP, clues, numbers), 1 in numbers)

    def test_the_columns_before_and_the_own_one_do_not_count(self):
        clues = [("ahead", (1, 2), (2, 1))]
        for before, expected in (((), False), ((0,), True), ((1,), False), ((1, 0), True)):
            self.assertIs(is_bar(UP, clues, (1, "up first"), [0], before=before), expected)
        clues = [("ahead", (1,), (2,))]
        self.assertIs(is_bar([ORDERS], clues, (0, "down last"), [0]), True)
        self.assertIs(is_bar([ORDERS], clues, (0, "down last"), [0], before=(0,)), True)
        self.assertIs(is_bar([ORDERS], clues, (0, "up last"), [0]), False)


if __name__ == "__main__":
    unittest.main()
