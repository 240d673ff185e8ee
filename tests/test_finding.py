"""Points 12 and 13: find and is_knot."""

import copy
import inspect
import itertools
import random
import unittest

from samples import (ORDERS, SCHEMA, chance_flat, chance_schema, chance_tree, repeats_a_list, share_a_list,
                     tuples_of_four)
from search import (ascending_lists, chance_clues, chance_columns, check_answer, fours, has_rule, is_real_knot,
                    told_clues)
from wrong import NO_NUMBERS

from sortclues import finding
from sortclues.errors import NoColumns
from sortclues.finding import find, groups, is_knot
from sortclues.rules import plain

UP = [("up first",), ("up first",)]
BOTH_WAYS = [("up first",), ("up first", "down first")]
# By column 1 upwards where column 0 is 1, downwards where it is 2.
CROSSED = [("ahead", (1, 1), (1, 2)), ("ahead", (2, 2), (2, 1))]


class TheExample(unittest.TestCase):
    def test_point_14(self):
        schema = [("up first", "up last"), ("down last",)]
        clues = [("ahead", (1, 5), (2, 5)), ("ahead", (2, 4), (1, 4))]
        got = [find(schema, clues)[0], is_knot(schema, clues, [1]), is_knot(schema, clues, [0]), groups(schema, clues)]
        self.assertEqual(got, ["knot", True, False, [[0, 1]]])
        got = [find(BOTH_WAYS, CROSSED)[0], find(BOTH_WAYS, CROSSED, branching=(0,))[0],
               is_knot(BOTH_WAYS, CROSSED, [0, 1]), is_knot(BOTH_WAYS, CROSSED, [0, 1], branching=(0,)),
               groups(BOTH_WAYS, CROSSED, branching=(0,))]
        self.assertEqual(got, ["knot", "rule", True, False, []])
        clues = [("not behind", (1, 1), (1, 1)), ("not behind", (2, 2), (2, 2)), ("alike", (1, 1), (1, 2))]
        self.assertEqual([groups(UP, clues), groups(UP, clues, branching=(0, 1))], [[[0, 1, 2]], [[0, 2], [1]]])


class Interface(unittest.TestCase):
    def test_names_and_arguments(self):
        listed = {"find": "(schema, clues, *, branching=(), without=())",
                  "is_knot": "(schema, clues, numbers, *, branching=(), without=())",
                  "groups": "(schema, clues, *, branching=(), without=())"}
        for name, arguments in listed.items():
            function = getattr(finding, name)
            self.assertEqual(str(inspect.signature(function)), arguments)
            self.assertEqual(function.__module__, "sortclues.finding")

    def test_arguments_by_name(self):
        found = find(without=(1,), branching=(0,), clues=CROSSED, schema=BOTH_WAYS)
        self.assertEqual(found, find(BOTH_WAYS, CROSSED, branching=(0,), without=(1,)))
        self.assertIs(is_knot(numbers=[0], without=(1,), branching=(0,), clues=CROSSED, schema=BOTH_WAYS), True)
        self.assertEqual(groups(without=(1,), branching=(), clues=CROSSED, schema=BOTH_WAYS), [[0, 1]])

    def test_columns_by_name_only(self):
        self.assertRaises(TypeError, find, UP, [], ())
        self.assertRaises(TypeError, is_knot, UP, [], [], ())
        self.assertRaises(TypeError, groups, UP, [], ())


class Find(unittest.TestCase):
    def find(self, schema, clues, branching=(), without=()):
        """What find returns, checked; its word."""
        before = copy.deepcopy((schema, clues, branching, without))
        answer = find(schema, clues, branching=branching, without=without)
        self.assertEqual((schema, clues, branching, without), before)
        self.assertFalse(repeats_a_list(answer))
        self.assertFalse(share_a_list(answer, [schema, clues]))
        return check_answer(self, schema, clues, answer, branching, without)

    def test_no_clues(self):
        for without in ((), (0,), (2, 0, 1)):
            self.assertEqual(find(SCHEMA, [], without=without)[0], "rule")
            self.assertEqual(self.find(SCHEMA, [], (), without), "rule")
            self.assertEqual(find(SCHEMA, [], branching=(2, 1), without=without), ("rule", None))
        self.assertEqual(find(SCHEMA, []), ("rule", []))

    def test_a_list_without_branching_and_a_tree_with_it(self):
        clues = [("ahead", (1, 1, 1), (2, 1, 1))]
        for columns in range(4):
            for branching in itertools.permutations(range(3), columns):
                word, rule = find(SCHEMA, clues, branching=branching)
                self.assertEqual((word, type(rule)), ("rule", tuple if branching else list))

    def test_one_clue(self):
        x, y = (1, 2, 3), (1, 2, 4)
        for clue, expected in ((("ahead", x, y), "rule"), (("ahead", y, x), "rule"), (("ahead", x, x), "knot"),
                               (("not behind", x, x), "rule"), (("alike", x, x), "rule"), (("alike", x, y), "rule")):
            for branching in ((), (2,), (1, 0)):
                self.assertEqual(self.find(SCHEMA, [clue], branching), expected)
        self.assertEqual(find(SCHEMA, [("ahead", x, x)]), ("knot", [0]))

    def test_clues_that_contradict_each_other(self):
        x, y, z = (1, 2, 3), (2, 1, 3), (2, 2, 2)
        for others in ([], [("not behind", z, x)], [("alike", z, z)] * 5):
            for clues in ([("ahead", x, y), ("ahead", y, x)], [("ahead", x, y), ("alike", x, y)],
                          [("ahead", x, y), ("not behind", y, x)], [("ahead", x, y), ("ahead", y, z), ("ahead", z, x)]):
                for branching in ((), (0,), (1, 2, 0)):
                    self.assertEqual(self.find(SCHEMA, others + clues, branching), "knot")
                    self.assertEqual(self.find(SCHEMA, clues[::-1] + others, branching), "knot")

    def test_clues_of_one_column_by_one_order(self):
        self.assertEqual(self.find(UP, [("ahead", (2, 5), (1, 5))]), "knot")
        self.assertEqual(self.find(UP, [("not behind", (2, 5), (1, 5))]), "rule")
        self.assertEqual(find(UP, [("ahead", (1, 5), (2, 5))]), ("rule", [(0, "up first")]))

    def test_alike_and_not_behind_alone(self):
        chance = random.Random(21)
        for _ in range(100):
            schema = chance_schema(chance, 4)
            clues = [clue for clue in chance_clues(chance, schema, 20) if clue[0] != "ahead"]
            self.assertEqual(self.find(schema, clues, chance_columns(chance, schema)), "rule")

    def test_a_step_closes_the_clues_behind_which_another_one_can_come(self):
        clues = [("ahead", (0, 9), (1, 0)), ("ahead", (3, 1), (3, 2))]
        self.assertEqual(find(UP, clues), ("rule", [(0, "up first"), (1, "up first")]))
        clues = [("ahead", (9, 0), (0, 1)), ("ahead", (1, 3), (2, 3))]
        self.assertEqual(find(UP, clues), ("rule", [(1, "up first"), (0, "up first")]))
        self.assertEqual(self.find(UP, [("alike", (0, 9), (1, 0)), ("ahead", (3, 1), (3, 2))]), "knot")

    def test_without(self):
        clues = [("ahead", (1, 1, 1), (2, 0, 2))]
        for without, expected in (((), "rule"), ((0,), "rule"), ((2, 0), "rule"), ((1, 0), "rule"),
                                  ((1, 2, 0), "knot"), ((0, 2, 1), "knot")):
            for branching in ((), (0,), (2, 1), (0, 1, 2)):
                self.assertEqual(self.find(SCHEMA, clues, branching, without), expected)

    def test_a_branching_column_parts_by_its_value(self):
        self.assertEqual(self.find(BOTH_WAYS, CROSSED), "knot")
        self.assertEqual(self.find(BOTH_WAYS, CROSSED, (1,)), "knot")
        for branching in ((0,), (0, 1), (1, 0)):
            self.assertEqual(self.find(BOTH_WAYS, CROSSED, branching), "rule")
        self.assertEqual(self.find(BOTH_WAYS, CROSSED, (0,), (0,)), "knot")
        tree = (0, "up first", [(1, (1, "up first", [], None)), (2, (1, "down first", [], None))], None)
        self.assertEqual(find(BOTH_WAYS, CROSSED, branching=(0,)), ("rule", tree))

    def test_the_empty_value_and_0_are_two_branches(self):
        clues = [("ahead", (None, 1), (None, 2)), ("ahead", (0, 2), (0, 1)), ("ahead", (1, 2), (1, 1))]
        self.assertEqual(self.find(BOTH_WAYS, clues, (0,)), "rule")
        word, tree = find(BOTH_WAYS, clues, branching=(0,))
        self.assertEqual({value for value, _ in tree[2]}, {None, 0, 1})

    def test_all_small_cases_made_by_chance(self):
        chance = random.Random(22)
        many = {}
        for _ in range(1500):
            schema = chance_schema(chance, 3)
            clues = chance_clues(chance, schema, chance.randint(0, 6))
            branching, without = chance_columns(chance, schema), chance_columns(chance, schema)
            without = chance.choice([without, (), ()])
            word = self.find(schema, clues, branching, without)
            self.assertEqual(word == "rule", has_rule(schema, clues, branching, without), (schema, clues))
            kind = (word, len(branching), without == ())
            many[kind] = many.get(kind, 0) + 1
        self.assertEqual(len([kind for kind, number in many.items() if number > 10]), 16)

    def test_the_order_of_the_columns_does_not_matter(self):
        chance = random.Random(23)
        for _ in range(100):
            schema = chance_schema(chance, 4)
            clues = chance_clues(chance, schema, 6)
            branching, without = chance_columns(chance, schema), chance_columns(chance, schema)[:1]
            words = {self.find(schema, clues, mixed, without) for mixed in itertools.permutations(branching)}
            self.assertEqual(len(words), 1)

    def test_clues_that_a_rule_keeps(self):
        chance = random.Random(24)
        for _ in range(150):
            schema = chance_schema(chance, 6)
            flat = chance_flat(chance, schema)
            unused = tuple(column for column in range(len(schema)) if column not in [step[0] for step in flat])
            clues = told_clues(chance, schema, flat, 40, (None, 0, 1, 10 ** 29))
            for branching in ((), chance_columns(chance, schema)):
                self.assertEqual(self.find(schema, clues, branching, unused), "rule")
                mixed = chance.sample(clues + clues, 60)
                self.assertEqual(self.find(schema, mixed, branching), "rule")
            self.assertEqual(self.find(schema, clues + [("ahead", (0,) * len(schema), (0,) * len(schema))]), "knot")

    def test_clues_that_a_tree_keeps(self):
        chance = random.Random(25)
        branched = 0
        for _ in range(300):
            schema = chance_schema(chance, 6)
            tree = chance_tree(chance, schema, [None, 0, 1])
            columns = tuple({four[0] for four in fours(tree) if four[2] != []})
            clues = told_clues(chance, schema, tree, 40)
            if columns:
                self.assertEqual(self.find(schema, clues, columns), "rule")
                branched += find(schema, clues)[0] == "knot"
            self.assertEqual(self.find(schema, clues, tuple(range(len(schema)))), "rule")
        self.assertGreater(branched, 20)

    def test_the_size_of_a_tree(self):
        rows = [((value // 7, value // 3, value, 0), (value // 7, value // 3, value, 1)) for value in range(40)]
        clues = [("ahead", *(pair if at % 2 else pair[::-1])) for at, pair in enumerate(rows)]
        self.assertEqual(self.find([ORDERS] * 4, clues, (3, 2, 1, 0)), "rule")
        self.assertGreater(tuples_of_four(find([ORDERS] * 4, clues, branching=(0, 1, 2))[1]), 40)

    def test_a_tree_that_is_found_is_plain(self):
        chance = random.Random(26)
        for _ in range(100):
            schema = chance_schema(chance, 4)
            clues = told_clues(chance, schema, chance_tree(chance, schema, [None, 0, 1]), 15)
            word, tree = find(schema, clues, branching=tuple(range(len(schema))))
            self.assertEqual((word, plain(schema, tree)), ("rule", tree))

    def test_the_same_question_has_the_same_answer_in_a_list_of_its_own(self):
        knot = [("ahead", (1, 1), (2, 2)), ("ahead", (2, 2), (1, 1))]
        for clues, branching in ((CROSSED, ()), (CROSSED, (0,)), (CROSSED[:1], ()), (knot, (0, 1)), ([], ())):
            first = find(BOTH_WAYS, clues, branching=branching)
            expected = copy.deepcopy(first)
            second = find(copy.deepcopy(BOTH_WAYS), copy.deepcopy(clues), branching=branching)
            self.assertFalse(share_a_list(first, second))
            for part in (first[1], first[1][2] if first[1] and branching == (0,) else []):
                if isinstance(part, list):
                    part.append("changed")
            self.assertEqual(second, expected)
            self.assertEqual(find(BOTH_WAYS, clues, branching=branching), expected)

    def test_a_later_change_of_an_argument_has_no_effect(self):
        schema, clues = copy.deepcopy(BOTH_WAYS), list(CROSSED)
        answers = [find(schema, clues), find(schema, clues, branching=(0,)), groups(schema, clues)]
        before = copy.deepcopy(answers)
        schema.clear()
        clues.clear()
        self.assertEqual(answers, before)


class IsKnot(unittest.TestCase):
    CLUES = [("ahead", (1, 1, 1), (2, 1, 1)), ("ahead", (2, 1, 1), (1, 1, 1)), ("not behind", (0, 0, 0), (0, 0, 0))]

    def test_anything_as_numbers(self):
        self.assertEqual(find(SCHEMA, self.CLUES)[1], [0, 1, 2])
        for numbers in ([0, 1, 2], [0, 1], [1], [1, 2]):
            self.assertIs(is_knot(SCHEMA, self.CLUES, numbers), True, numbers)
        for numbers in ([], [0], [2], [0, 2]):
            self.assertIs(is_knot(SCHEMA, self.CLUES, numbers), False, numbers)
        for thing in NO_NUMBERS:
            self.assertIs(is_knot(SCHEMA, self.CLUES, thing), False, thing)
            self.assertIs(is_knot(SCHEMA, self.CLUES, thing, branching=(0, 1)), False, thing)

    def test_numbers_that_would_be_a_knot_but_for_their_form(self):
        never = [("ahead", (1, 1), (1, 1))] * 3
        for thing in NO_NUMBERS:
            self.assertIs(is_knot(UP, never, thing), False, thing)
        for numbers in ascending_lists(never):
            self.assertIs(is_knot(UP, never, numbers), True)
        self.assertIs(is_knot(UP, [], []), False)
        self.assertIs(is_knot(UP, [], [0]), False)

    def test_without_ahead_there_is_no_knot(self):
        clues = [("alike", (1, 1), (2, 2)), ("not behind", (2, 2), (1, 1)), ("alike", (1, 1), (1, 1))]
        for numbers in ascending_lists(clues):
            for branching in ((), (0,), (1, 0)):
                self.assertIs(is_knot(UP, clues, numbers, branching=branching), False)
                self.assertIs(is_knot(UP, clues, numbers, branching=branching, without=(0, 1)), False)

    def test_one_value_or_several_in_a_branching_column(self):
        one = [("ahead", (1, 1), (1, 2)), ("ahead", (1, 2), (1, 1))]
        for branching, expected in (((), [True, True]), ((1,), [True, True]), ((0,), [True, False]),
                                    ((1, 0), [True, False])):
            got = [is_knot(BOTH_WAYS, clues, [0, 1], branching=branching) for clues in (one, CROSSED)]
            self.assertEqual(got, expected)
        empty = [("ahead", (None, 1), (None, 2)), ("ahead", (0, 2), (0, 1))]
        self.assertIs(is_knot(BOTH_WAYS, empty, [0, 1], branching=(0,)), False)
        self.assertIs(is_knot(BOTH_WAYS, empty, [0, 1], branching=(0,), without=(0,)), True)

    def test_steps_of_without_do_not_count(self):
        clue = [("ahead", (1, 1, 1), (2, 1, 2))]
        for without, expected in (((), False), ((0,), False), ((2,), False), ((0, 2), True), ((2, 0), True),
                                  ((0, 1, 2), True), ((1,), False)):
            for branching in ((), (0,), (1, 2)):
                self.assertIs(is_knot(SCHEMA, clue, [0], branching=branching, without=without), expected)

    def test_all_lists_of_numbers_of_clues_made_by_chance(self):
        chance = random.Random(27)
        many = {True: 0, False: 0}
        for _ in range(150):
            schema = chance_schema(chance, 3)
            clues = chance_clues(chance, schema, chance.randint(1, 5))
            branching, without = chance_columns(chance, schema), chance.choice([(), chance_columns(chance, schema)])
            for numbers in ascending_lists(clues):
                got = is_knot(schema, clues, numbers, branching=branching, without=without)
                expected = is_real_knot(schema, clues, numbers, branching, without)
                self.assertIs(got, expected, (schema, clues, numbers, branching, without))
                many[got] += 1
        self.assertGreater(min(many.values()), 300)

    def test_the_numbers_stay_as_they_were(self):
        numbers = [0, 1]
        is_knot(BOTH_WAYS, CROSSED, numbers)
        self.assertEqual(numbers, [0, 1])

    def test_columns_are_checked_whatever_the_numbers_are(self):
        for numbers in (None, [], [7], [0]):
            self.assertRaises(NoColumns, is_knot, UP, [], numbers, branching=(2,))
            self.assertRaises(NoColumns, is_knot, UP, [], numbers, without=[0])


if __name__ == "__main__":
    unittest.main()
