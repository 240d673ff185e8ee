"""Point 14: groups."""

import copy
import itertools
import random
import unittest

from samples import ORDERS, SCHEMA, chance_schema, repeats_a_list, share_a_list
from search import chance_clues, chance_columns, has_rule, none_parts, real_groups, told_clues

from sortclues.finding import find, groups

UP = [("up first",), ("up first",)]


class Groups(unittest.TestCase):
    def check_form(self, clues, got):
        """Ascending lists of numbers of clues, by their first numbers, none with a number of another."""
        numbers = [number for group in got for number in group]
        self.assertTrue(all(type(group) is list and group for group in got), got)
        self.assertEqual({int} | {type(number) for number in numbers}, {int})
        self.assertEqual(sorted(set(numbers)), sorted(numbers))
        self.assertLessEqual(set(numbers), set(range(len(clues))))
        self.assertEqual([sorted(group) for group in got], got)
        self.assertEqual(sorted(group[0] for group in got), [group[0] for group in got])

    def groups(self, schema, clues, branching=(), without=()):
        """What groups returns, its form checked."""
        before = copy.deepcopy((schema, clues))
        got = groups(schema, clues, branching=branching, without=without)
        self.assertEqual((schema, clues), before)
        self.check_form(clues, got)
        self.assertFalse(repeats_a_list(got))
        self.assertFalse(share_a_list(got, [schema, clues]))
        return got

    def test_no_clues(self):
        for branching in ((), (0,), (2, 0, 1)):
            self.assertEqual(self.groups(SCHEMA, [], branching), [])
            self.assertEqual(self.groups(SCHEMA, [], branching, (0, 1)), [])

    def test_what_a_step_closes_is_in_no_group(self):
        clues = [("ahead", (1, 1), (2, 0)), ("not behind", (1, 0), (1, 1)), ("alike", (3, 3), (3, 3))]
        self.assertEqual(self.groups(UP, clues), [[2]])
        self.assertEqual(self.groups(UP, clues[:2]), [])
        self.assertEqual(self.groups(UP, clues[:2], (), (1,)), [[1]])
        self.assertEqual(self.groups(UP, clues[:2], (), (0,)), [[0, 1]])
        self.assertEqual(self.groups(UP, clues[:2], (1,), (0, 1)), [[0, 1]])

    def test_clues_with_equal_rows(self):
        clues = [("not behind", (value, 0), (value, 0)) for value in (3, None, 0, 3, None, 3)]
        self.assertEqual(self.groups(UP, clues), [[0, 1, 2, 3, 4, 5]])
        self.assertEqual(self.groups(UP, clues, (1,)), [[0, 1, 2, 3, 4, 5]])
        for branching in ((0,), (0, 1), (1, 0)):
            self.assertEqual(self.groups(UP, clues, branching), [[0, 3, 5], [1, 4], [2]])
        self.assertEqual(self.groups(UP, clues, (0,), (0,)), [[0, 1, 2, 3, 4, 5]])

    def test_by_their_first_numbers_whatever_the_values_are(self):
        rows = [(4, 0), (2, 1), (4, 1), (1, 7), (2, 0), (None, 3), (4, 0), (1, 6), (4, 1)]
        clues = [("alike", row, row) for row in rows]
        expected = [[0, 6], [1], [2, 8], [3], [4], [5], [7]]
        self.assertEqual(self.groups(UP, clues, (0, 1)), expected)
        self.assertEqual(self.groups(UP, clues, (1, 0)), expected)
        self.assertEqual(self.groups(UP, clues, (0,)), [[0, 2, 6, 8], [1, 4], [3, 7], [5]])
        clues = [("alike", (value // 12, value), (value // 12, value)) for value in range(39, -1, -1)]
        self.assertEqual(self.groups(UP, clues, (0, 1)), [[number] for number in range(40)])

    def test_against_all_lists_of_numbers(self):
        chance = random.Random(31)
        sizes = {}
        for _ in range(400):
            schema = chance_schema(chance, 3)
            clues = chance_clues(chance, schema, chance.randint(0, 6))
            branching, without = chance_columns(chance, schema), chance.choice([(), chance_columns(chance, schema)])
            got = self.groups(schema, clues, branching, without)
            self.assertEqual(got, real_groups(schema, clues, branching, without), (schema, clues, branching, without))
            if branching == ():
                self.assertLessEqual(len(got), 1)
            sizes[len(got)] = sizes.get(len(got), 0) + 1
        self.assertGreater(min(sizes[many] for many in (0, 1, 2, 3)), 10)

    def test_a_rule_is_there_where_no_group_has_ahead(self):
        chance = random.Random(32)
        for _ in range(300):
            schema = chance_schema(chance, 3)
            clues = chance_clues(chance, schema, 6)
            branching, without = chance_columns(chance, schema), chance_columns(chance, schema)[:1]
            got = self.groups(schema, clues, branching, without)
            words = [clues[number][0] for group in got for number in group]
            word = find(schema, clues, branching=branching, without=without)[0]
            self.assertEqual("ahead" not in words, has_rule(schema, clues, branching, without))
            self.assertEqual("ahead" not in words, word == "rule")

    def test_clues_in_another_order(self):
        chance = random.Random(33)
        for _ in range(200):
            schema = chance_schema(chance, 4)
            clues = chance_clues(chance, schema, 12)
            branching = chance_columns(chance, schema)
            mixed = chance.sample(range(12), 12)
            one = self.groups(schema, clues, branching)
            other = self.groups(schema, [clues[number] for number in mixed], branching)
            self.assertEqual(one, sorted(sorted(mixed[number] for number in group) for group in other))

    def test_the_order_of_the_columns_does_not_matter(self):
        chance = random.Random(34)
        for _ in range(60):
            schema = chance_schema(chance, 4)
            clues = chance_clues(chance, schema, 8)
            branching, without = chance_columns(chance, schema), chance_columns(chance, schema)[:2]
            expected = self.groups(schema, clues, branching, without)
            for mixed in itertools.permutations(branching):
                self.assertEqual(self.groups(schema, clues, mixed, without[::-1]), expected)

    def test_larger_cases(self):
        chance = random.Random(35)
        for _ in range(60):
            schema = [ORDERS] * 6
            clues = chance_clues(chance, schema, 25, (None, 0)) + told_clues(chance, schema, [(3, "up last")], 15)
            branching, without = chance_columns(chance, schema), chance_columns(chance, schema)[:2]
            got = self.groups(schema, clues, branching, without)
            for group in got:
                self.assertTrue(none_parts(schema, clues, group, branching, without))
            for one, other in itertools.combinations(got, 2):
                self.assertFalse(none_parts(schema, clues, sorted(one + other), branching, without))

    def test_the_lists_belong_to_the_caller(self):
        clues = [("alike", (value, 0), (value, 0)) for value in (1, 2, 1)]
        first, second = [groups(UP, clues, branching=(0,)) for _ in range(2)]
        self.assertFalse(share_a_list(first, second))
        first[0].append(7)
        first.append([9])
        self.assertEqual([second, groups(UP, clues, branching=(0,))], [[[0, 2], [1]]] * 2)


if __name__ == "__main__":
    unittest.main()
