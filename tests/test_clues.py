"""Points 10 and 11: what is a clue, which clues a rule does not keep, and what a step is to a clue."""

import copy
import inspect
import itertools
import random
import unittest

from samples import ORDERS, SCHEMA, chance_flat, chance_schema, chance_tree, share_a_list
from search import WORDS, chance_clues, explains, says_of, steps_of, told_clues
from wrong import CLUE, HIGH, LOW, NO_CLUE, NO_CLUES

from sortclues import clues as module
from sortclues.clues import broken, check_clue, check_clues, is_clue, stance
from sortclues.errors import NoClue, NoClues
from sortclues.rules import tree_of


class TheExample(unittest.TestCase):
    def test_point_11(self):
        schema = [("up first", "up last"), ("down last",)]
        clues = [("ahead", (1, 5), (2, 5)), ("alike", (1, 0), (1, 3))]
        got = [broken(schema, [(1, "down last"), (0, "up first")], clues), stance(schema, (0, "up first"), clues[0]),
               stance(schema, (1, "down last"), clues[1])]
        self.assertEqual(got, [[1], "for", "against"])


class Interface(unittest.TestCase):
    def test_names_and_arguments(self):
        listed = {"is_clue": "(schema, thing)", "broken": "(schema, rule, clues)", "stance": "(schema, step, clue)"}
        for name, arguments in listed.items():
            function = getattr(module, name)
            self.assertEqual(str(inspect.signature(function)), arguments)
            self.assertEqual(function.__module__, "sortclues.clues")

    def test_arguments_by_name(self):
        self.assertIs(is_clue(thing=CLUE, schema=SCHEMA), True)
        self.assertEqual(broken(clues=[CLUE], rule=[], schema=SCHEMA), [0])
        self.assertEqual(stance(clue=CLUE, step=(0, "up first"), schema=SCHEMA), "for")


class Clues(unittest.TestCase):
    def test_three_words_and_two_rows(self):
        for word, x, y in itertools.product(WORDS, (LOW, HIGH, (None,) * 3, (10 ** 29, -1, 0)), (LOW, HIGH)):
            self.assertIs(is_clue(SCHEMA, (word, x, y)), True)
            self.assertIsNone(check_clue(SCHEMA, (word, x, y)))
        self.assertIs(is_clue([ORDERS], ("alike", (None,), (None,))), True)
        self.assertIs(is_clue([ORDERS] * 6, ("not behind", (0,) * 6, (1,) * 6)), True)

    def test_what_is_no_clue(self):
        for thing in NO_CLUE:
            self.assertIs(is_clue(SCHEMA, thing), False, thing)
            self.assertRaises(NoClue, check_clue, SCHEMA, thing)

    def test_rows_of_just_this_schema(self):
        for columns, one, other in itertools.product(range(1, 7), range(8), range(8)):
            clue = ("not behind", (1,) * one, (2,) * other)
            self.assertIs(is_clue([ORDERS] * columns, clue), one == other == columns)

    def test_deep_and_large_things(self):
        deep = CLUE
        for _ in range(18):
            deep = (deep,)
        for thing in (deep, CLUE * 600, [CLUE] * 200, "ahead" * 800, ("ahead", LOW * 300, HIGH), (deep, LOW, HIGH)):
            self.assertIs(is_clue(SCHEMA, thing), False)

    def test_lists_of_clues(self):
        for clues in ([], [CLUE], [CLUE, CLUE], [CLUE, ("alike", LOW, LOW)] * 20, [CLUE] * 60):
            self.assertIsNone(check_clues(SCHEMA, clues))
        for thing in NO_CLUES:
            self.assertRaises(NoClues, check_clues, SCHEMA, thing)


class Broken(unittest.TestCase):
    def test_each_word_with_each_result(self):
        x, y = (1, 0, 0), (2, 0, 0)
        for rule in ([(0, "up first")], (0, "up last", [], None), [(1, "down last"), (0, "up last")]):
            for word, expected in (("ahead", [1, 2]), ("not behind", [1]), ("alike", [0, 1])):
                self.assertEqual(broken(SCHEMA, rule, [(word, x, y), (word, y, x), (word, x, x)]), expected)

    def test_the_empty_rules_say_alike_of_all(self):
        clues = [(word, *rows) for word in WORDS for rows in ((LOW, HIGH), (HIGH, LOW), (LOW, LOW))]
        self.assertEqual(broken(SCHEMA, [], clues), [0, 1, 2])
        self.assertEqual(broken(SCHEMA, None, clues), [0, 1, 2])

    def test_a_tree_with_branches(self):
        tree = (0, "up first", [(7, (1, "down last", [], None)), (None, (2, "up last", [], None))], None)
        clues = [("ahead", (7, 5, 0), (7, 4, 0)), ("ahead", (8, 5, 0), (8, 4, 0)), ("alike", (8, 5, 0), (8, 4, 9)),
                 ("not behind", (None, 0, 2), (None, 9, 1)), ("ahead", (None, 0, 1), (None, 9, 2)),
                 ("alike", (7, 4, 1), (7, 4, 2)), ("alike", (7, 4, 1), (None, 4, 1))]
        self.assertEqual(broken(SCHEMA, tree, clues), [1, 3, 6])

    def test_no_clues_and_the_same_one_often(self):
        self.assertEqual(broken(SCHEMA, [(0, "up first")], []), [])
        self.assertEqual(broken(SCHEMA, [(0, "up last")], [("ahead", HIGH, LOW), CLUE] * 20), list(range(0, 40, 2)))

    def test_rules_made_by_chance(self):
        chance = random.Random(11)
        seen = set()
        for _ in range(200):
            schema = chance_schema(chance, 4)
            for rule in (chance_flat(chance, schema), chance_tree(chance, schema, [None, 0, 1])):
                clues = chance_clues(chance, schema, chance.randint(0, 12)) + told_clues(chance, schema, rule, 4)
                before = copy.deepcopy((schema, rule, clues))
                got = broken(schema, rule, clues)
                self.assertEqual(got, [at for at, clue in enumerate(clues) if not explains(rule, [clue])])
                self.assertEqual((schema, rule, clues), before)
                seen.add(len(got))
                if isinstance(rule, list):
                    self.assertEqual(broken(schema, tree_of(schema, rule), clues), got)
        self.assertGreater(len(seen), 6)

    def test_the_list_belongs_to_the_caller(self):
        clues = [("ahead", HIGH, LOW)] * 3
        rule = [(0, "up first")]
        first = broken(SCHEMA, rule, clues)
        self.assertFalse(share_a_list(first, [rule, clues]))
        first.clear()
        second = broken(SCHEMA, rule, clues)
        self.assertEqual(second, [0, 1, 2])
        clues.clear()
        rule.clear()
        self.assertEqual(second, [0, 1, 2])
        self.assertTrue(all(type(number) is int for number in second))


class Stance(unittest.TestCase):
    def told(self, order, word, one, other):
        """The stance where the rows differ in the column of the step alone, and where they differ elsewhere too."""
        schema = [("up last",), ORDERS]
        got = [stance(schema, (1, order), (word, (first, one), (second, other)))
               for first, second in ((0, 0), (1, 2), (2, 1), (None, 7))]
        self.assertEqual(got, [got[0]] * 4)
        return got[0]

    def test_whole_numbers(self):
        for word in ("ahead", "not behind"):
            for one, other in ((1, 2), (-2, -1), (-1, 0), (9, 10), (10 ** 29, 10 ** 29 + 1)):
                forth = [self.told(order, word, one, other) for order in ORDERS]
                back = [self.told(order, word, other, one) for order in ORDERS]
                self.assertEqual(forth, ["for", "for", "against", "against"])
                self.assertEqual(back, ["against", "against", "for", "for"])

    def test_one_empty_value(self):
        for word in ("ahead", "not behind"):
            for number in (0, 1, -1, 10 ** 29):
                forth = [self.told(order, word, None, number) for order in ORDERS]
                back = [self.told(order, word, number, None) for order in ORDERS]
                self.assertEqual(forth, ["for", "against", "for", "against"])
                self.assertEqual(back, ["against", "for", "against", "for"])

    def test_the_same_value_on_both_sides(self):
        for order, word, value in itertools.product(ORDERS, WORDS, (None, 0, 1, -10 ** 29)):
            self.assertEqual(self.told(order, word, value, value), "silent")

    def test_alike_with_different_values(self):
        for order, rows in itertools.product(ORDERS, itertools.permutations((None, 0, 1, -5), 2)):
            self.assertEqual(self.told(order, "alike", *rows), "against")

    def test_clues_made_by_chance(self):
        chance = random.Random(12)
        for _ in range(200):
            schema = chance_schema(chance, 4)
            for clue in chance_clues(chance, schema, 6):
                for step in steps_of(schema):
                    got = stance(schema, step, clue)
                    self.assertEqual((type(got), got), (str, says_of(step, clue)), (step, clue))


if __name__ == "__main__":
    unittest.main()
