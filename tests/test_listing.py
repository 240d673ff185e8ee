"""Point 15: all_rules, how_many, question and teach."""

import copy
import inspect
import itertools
import random
import time
import unittest

from samples import ORDERS, SCHEMA, chance_flat, chance_schema, opinion, repeats_a_list, share_a_list
from search import chance_clues, explains, flat_rules, told_clues
from wrong import NO_CLUES

from sortclues import listing
from sortclues.clues import is_clue
from sortclues.errors import NoClues, NoRule, NoSchema
from sortclues.listing import all_rules, how_many, question, teach
from sortclues.rules import is_flat
from sortclues.schemas import is_row

LARGEST = [ORDERS] * 6
# The empty list, and for each number of columns their choices in any order, with one of 4 orders each.
MILLIONS = 1 + 6 * 4 + 30 * 16 + 120 * 64 + 360 * 256 + 720 * 1024 + 720 * 4096


class TheExample(unittest.TestCase):
    def test_point_15(self):
        got = [list(all_rules([("up first",)], [("not behind", (1,), (2,))])),
               how_many([("up first",), ("down last", "up last")], []),
               question([("up first",)], [("ahead", (1,), (2,))])]
        self.assertEqual(got, [[[], [(0, "up first")]], 8, None])


class Interface(unittest.TestCase):
    def test_names_and_arguments(self):
        listed = {"all_rules": "(schema, clues)", "how_many": "(schema, clues)", "question": "(schema, clues)",
                  "teach": "(schema, flat)"}
        for name, arguments in listed.items():
            function = getattr(listing, name)
            self.assertEqual(str(inspect.signature(function)), arguments)
            self.assertEqual(function.__module__, "sortclues.listing")

    def test_arguments_by_name(self):
        schema, clues = [("up first",)], [("ahead", (1,), (2,))]
        self.assertEqual(list(all_rules(clues=clues, schema=schema)), [[(0, "up first")]])
        self.assertEqual(how_many(clues=clues, schema=schema), 1)
        self.assertIsNone(question(clues=clues, schema=schema))
        self.assertEqual(teach(flat=[], schema=schema)[0][0], "alike")

    def test_a_generator(self):
        self.assertTrue(inspect.isgenerator(all_rules(SCHEMA, [])))
        self.assertTrue(inspect.isgenerator(all_rules(None, None)))


class AllRules(unittest.TestCase):
    def test_all_flat_rules_of_a_schema_in_their_order(self):
        schema = [("down last", "up first"), ("up last",)]
        expected = [[], [(0, "down last")], [(0, "down last"), (1, "up last")], [(0, "up first")],
                    [(0, "up first"), (1, "up last")], [(1, "up last")], [(1, "up last"), (0, "down last")],
                    [(1, "up last"), (0, "up first")]]
        self.assertEqual(list(all_rules(schema, [])), expected)
        for schema in ([ORDERS], SCHEMA, [("up first",)] * 4, [ORDERS, ORDERS[::-1], ORDERS[1:3]]):
            rules = list(all_rules(schema, []))
            self.assertEqual(rules, flat_rules(schema))
            self.assertEqual(how_many(schema, []), len(rules))

    def test_the_flat_rules_that_explain(self):
        chance = random.Random(41)
        sizes = []
        for _ in range(300):
            schema = chance_schema(chance, 3)
            clues = chance.choice([chance_clues(chance, schema, chance.randint(0, 5)),
                                   told_clues(chance, schema, chance_flat(chance, schema), chance.randint(0, 8))])
            before = copy.deepcopy((schema, clues))
            rules = list(all_rules(schema, clues))
            self.assertEqual(rules, [flat for flat in flat_rules(schema) if explains(flat, clues)], (schema, clues))
            self.assertEqual(how_many(schema, clues), len(rules))
            self.assertEqual((schema, clues), before)
            sizes.append(min(len(rules), 4))
        self.assertGreater(min(sizes.count(size) for size in range(5)), 5)

    def test_no_rule(self):
        for clues in ([("ahead", (1, 1, 1), (1, 1, 1))],
                      [("ahead", (1, 1, 1), (2, 1, 1)), ("ahead", (2, 1, 1), (1, 1, 1))]):
            self.assertEqual(list(all_rules(SCHEMA, clues)), [])
            self.assertEqual(how_many(SCHEMA, clues), 0)
            self.assertIsNone(question(SCHEMA, clues))

    def test_each_list_belongs_to_the_caller(self):
        schema, clues = [ORDERS, ("up last", "down first")], [("not behind", (1, 1), (2, 1))]
        expected = list(all_rules(schema, clues))
        self.assertFalse(repeats_a_list(expected))
        got = []
        for flat in all_rules(schema, clues):
            got.append(list(flat))
            flat.append("changed")
            flat.reverse()
        self.assertEqual(got, expected)
        got = []
        for flat in all_rules(schema, clues):
            got.append(list(flat))
            flat.clear()
        self.assertEqual(got, expected)
        self.assertEqual(list(all_rules(schema, clues)), expected)

    def test_arguments_are_taken_when_iteration_begins(self):
        schema, clues = [("up first",)], [("ahead", (1,), (2,)), ("ahead", (2,), (1,))]
        rules = all_rules(schema, clues)
        del clues[1]
        schema.append(("down last",))
        clues[0] = ("ahead", (1, 5), (2, 5))
        expected = [[(0, "up first")], [(0, "up first"), (1, "down last")], [(1, "down last"), (0, "up first")]]
        self.assertEqual(next(rules), expected[0])
        clues.append(("alike", (1, 5), (2, 5)))
        schema.pop()
        schema[0] = ("up last",)
        self.assertEqual(list(rules), expected[1:])

    def test_errors_are_raised_when_iteration_begins(self):
        for schema, clues, error in (([], [], NoSchema), (None, None, NoSchema), (SCHEMA, None, NoClues),
                                     (SCHEMA, [("ahead",)], NoClues), ([()], [("ahead",)], NoSchema)):
            rules = all_rules(schema, clues)
            self.assertRaises(error, next, rules)
            self.assertEqual(list(rules), [])
        schema, clues = [], [None]
        rules = all_rules(schema, clues)
        schema.append(("up first",))
        clues.clear()
        self.assertEqual(list(rules), [[], [(0, "up first")]])
        for thing in NO_CLUES:
            self.assertRaises(NoClues, next, all_rules(SCHEMA, thing))

    def test_two_iterations_at_once(self):
        clues = [("not behind", (1, 2, 3), (1, 2, 4))]
        expected = list(all_rules(SCHEMA, clues))
        pairs = list(zip(all_rules(SCHEMA, clues), all_rules(SCHEMA, clues)))
        self.assertEqual(pairs, [(flat, flat) for flat in expected])
        self.assertTrue(all(one is not other for one, other in pairs))


class Millions(unittest.TestCase):
    def promptly(self, function, *arguments):
        """What the function returns, within half a second (going through all rules takes more)."""
        start = time.perf_counter()
        got = function(*arguments)
        self.assertLess(time.perf_counter() - start, 0.5)
        return got

    def test_how_many(self):
        self.assertEqual(MILLIONS, 3786745)
        self.assertEqual(self.promptly(how_many, LARGEST, []), MILLIONS)
        equal = [("not behind", (5,) * 6, (5,) * 6)] * 40
        self.assertEqual(self.promptly(how_many, LARGEST, equal), MILLIONS)
        # The column of the clue must have a step, of one of 2 of 4 orders, ahead of any column that is against.
        self.assertEqual(self.promptly(how_many, LARGEST, [("alike", (0, 5, 5, 5, 5, 5), (1, 5, 5, 5, 5, 5))]),
                         1 + 5 * 4 + 20 * 16 + 60 * 64 + 120 * 256 + 120 * 1024)
        forced = [("ahead", (5, 5, 5, 5, 5, 0), (5, 5, 5, 5, 5, 1))]
        half = sum(many * ways for many, ways in ((1, 2), (5 * 2, 2 * 4), (20 * 3, 2 * 16), (60 * 4, 2 * 64),
                                                  (120 * 5, 2 * 256), (120 * 6, 2 * 1024)))
        self.assertEqual(self.promptly(how_many, LARGEST, forced), half)

    def test_the_first_ones(self):
        rules = all_rules(LARGEST, [])
        got = [self.promptly(next, rules) for _ in range(8)]
        self.assertEqual(got[:3], [[], [(0, "up first")], [(0, "up first"), (1, "up first")]])
        self.assertEqual(got[6], [(column, "up first") for column in range(6)])
        self.assertEqual(got[7], [(column, "up first") for column in range(5)] + [(5, "up last")])

    def test_all_of_them_to_the_end(self):
        self.assertEqual(sum(1 for _ in all_rules(LARGEST, [])), MILLIONS)

    def test_the_end_is_prompt_where_few_explain(self):
        flat = [(column, "down last") for column in (5, 3, 1, 0, 2, 4)]
        clues = teach(LARGEST, flat)
        self.assertEqual(self.promptly(list, all_rules(LARGEST, clues)), [flat])
        self.assertEqual(self.promptly(list, all_rules(LARGEST, clues + [("ahead", (0,) * 6, (0,) * 6)])), [])
        self.assertEqual(self.promptly(list, all_rules(LARGEST, [("ahead", (0,) * 6, (0,) * 6)])), [])
        # The first five columns can stand in any order, but nothing closes the last clue.
        unlike = [("alike", (0,) * 5 + (value,), (0,) * 5 + (value + 1,)) for value in range(20)]
        never = unlike + [("ahead", (0,) * 5 + (3,), (0,) * 5 + (7,))]
        self.assertEqual(self.promptly(list, all_rules(LARGEST, never)), [])
        self.assertEqual(self.promptly(how_many, LARGEST, never), 0)

    def test_each_next_one_is_prompt(self):
        clues = [("ahead", (0, 0, 0, 0, 0, 10 ** 29), (0, 0, 0, 0, 0, None))] * 40
        rules = all_rules(LARGEST, clues)
        slowest = 0
        for _ in range(20000):
            start = time.perf_counter()
            flat = next(rules)
            slowest = max(slowest, time.perf_counter() - start)
            self.assertIn(flat[-1][1], ORDERS)
        self.assertLess(slowest, 1)


class Question(unittest.TestCase):
    def check(self, schema, clues, rules):
        """question is right, given all flat rules that explain."""
        before = copy.deepcopy((schema, clues))
        got = question(schema, clues)
        self.assertEqual((schema, clues), before)
        if len(rules) < 2:
            self.assertIsNone(got)
            return
        self.assertEqual((type(got), len(got)), (tuple, 4))
        x, y, one, other = got
        self.assertTrue(is_row(schema, x) and is_row(schema, y), got)
        for flat in (one, other):
            self.assertIs(is_flat(schema, flat), True)
            self.assertTrue(explains(flat, clues))
        self.assertNotEqual(opinion(one, x, y), opinion(other, x, y))
        self.assertFalse(repeats_a_list(got))
        self.assertFalse(share_a_list(got, [schema, clues]))

    def test_none_just_where_at_most_one_rule_explains(self):
        chance = random.Random(42)
        sizes = []
        for _ in range(400):
            schema = chance_schema(chance, 3)
            clues = told_clues(chance, schema, chance_flat(chance, schema), chance.randint(0, 12))
            clues += chance_clues(chance, schema, chance.choice([0, 0, 1]))
            rules = [flat for flat in flat_rules(schema) if explains(flat, clues)]
            self.check(schema, clues, rules)
            sizes.append(min(len(rules), 3))
        self.assertGreater(min(sizes.count(size) for size in range(4)), 10)

    def test_two_rules_that_differ_in_one_way(self):
        for schema, clues, many in (
                ([("up first",)], [], 2), ([("up first", "up last")], [("ahead", (1,), (2,))], 2),
                ([("up first", "down first")], [("ahead", (None,), (2,))], 2), ([("down last",)], [], 2),
                ([("up first",), ("up first",)], [("ahead", (1, 1), (2, 1)), ("ahead", (1, 1), (1, 2))], 2)):
            rules = [flat for flat in flat_rules(schema) if explains(flat, clues)]
            self.assertEqual(len(rules), many)
            self.check(schema, clues, rules)

    def test_millions(self):
        start = time.perf_counter()
        self.check(LARGEST, [], [[], [(0, "up first")]])
        self.assertIsNone(question(LARGEST, teach(LARGEST, [(column, "down first") for column in range(6)])))
        self.assertLess(time.perf_counter() - start, 1)

    def test_the_lists_belong_to_the_caller(self):
        first, second = question(SCHEMA, []), question(SCHEMA, [])
        self.assertEqual(first, second)
        self.assertFalse(share_a_list(first, second))
        first[2].append(1)
        first[3].append(1)
        self.assertEqual(question(SCHEMA, []), second)


class Teach(unittest.TestCase):
    def teach(self, schema, flat):
        """What teach returns: at most 40 clues that the rule explains."""
        before = copy.deepcopy((schema, flat))
        clues = teach(schema, flat)
        self.assertEqual((schema, flat), before)
        self.assertIs(type(clues), list)
        self.assertLessEqual(len(clues), 40)
        self.assertTrue(all(is_clue(schema, clue) for clue in clues), clues)
        self.assertTrue(explains(flat, clues))
        self.assertFalse(repeats_a_list(clues))
        self.assertFalse(share_a_list(clues, [schema, flat]))
        return clues

    def test_no_other_flat_rule_of_small_schemas_explains(self):
        for schema in ([("up last",)], [ORDERS], SCHEMA, [("up first", "down first"), ORDERS], [("down last",)] * 3,
                       [ORDERS[::-1], ("up first", "up last")]):
            rules = flat_rules(schema)
            for flat in rules:
                clues = self.teach(schema, flat)
                self.assertEqual([other for other in rules if explains(other, clues)], [flat])

    def test_each_flat_rule_of_a_schema_of_three_columns(self):
        schema = [ORDERS, ("up first", "down last"), ORDERS]
        for flat in flat_rules(schema):
            self.assertEqual(list(all_rules(schema, self.teach(schema, flat))), [flat])

    def test_six_columns_with_four_orders(self):
        chance = random.Random(43)
        samples = [chance_flat(chance, LARGEST) for _ in range(150)] + [[]]
        samples += [list(zip(columns, orders)) for columns, orders in
                    itertools.product(([5, 4, 3, 2, 1, 0], [0, 1, 2, 3, 4, 5], [3, 0, 5, 1, 4, 2]),
                                      (ORDERS + ORDERS[:2], ORDERS[::-1] + ORDERS[2:], ORDERS[1:2] * 6))]
        for flat in samples:
            clues = self.teach(LARGEST, flat)
            self.assertEqual(list(all_rules(LARGEST, clues)), [flat])
            self.assertEqual(how_many(LARGEST, clues), 1)
            self.assertIsNone(question(LARGEST, clues))

    def test_other_schemas(self):
        chance = random.Random(44)
        for _ in range(200):
            schema = chance_schema(chance, 6)
            flat = chance_flat(chance, schema)
            self.assertEqual(list(all_rules(schema, self.teach(schema, flat))), [flat])

    def test_trees_are_refused(self):
        for tree in (None, (0, "up first", [], None), (0, "up first", [(1, None)], None)):
            self.assertRaises(NoRule, teach, SCHEMA, tree)

    def test_the_list_belongs_to_the_caller(self):
        flat = [(2, "up last"), (0, "up first")]
        first, second = teach(SCHEMA, flat), teach(SCHEMA, flat)
        self.assertEqual(first, second)
        self.assertFalse(share_a_list(first, second))
        first.clear()
        flat.clear()
        self.assertEqual(list(all_rules(SCHEMA, second)), [[(2, "up last"), (0, "up first")]])


if __name__ == "__main__":
    unittest.main()
