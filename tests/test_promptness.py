"""Points 2 and 3: prompt answers for the largest questions, and returned things that are passed again."""

import random
import time
import unittest

from samples import ORDERS, chance_flat, chance_tree
from search import check_answer, check_rule, chance_clues, explains, told_clues

from sortclues.clues import broken, is_clue, stance
from sortclues.finding import find, groups, is_knot
from sortclues.listing import all_rules, how_many, question, teach
from sortclues.rules import tree_of
from sortclues.saying import is_bar, must_branch, needed, says, usable

SCHEMA = [ORDERS] * 6
ALL = (0, 1, 2, 3, 4, 5)
LARGE = 10 ** 30 - 1
VALUES = (None, LARGE, LARGE - 1, -LARGE, 0)


def unlocking():
    """Clues of which those of one column close what each order of all columns before it is against."""
    clues = []
    for at in range(40):
        column = 5 - at % 6
        x, y = [LARGE - at] * 6, [LARGE - at] * 6
        x[column] -= 1
        for earlier in range(column):
            x[earlier] += 1 if at // 6 % 2 else -1
        clues.append(("ahead", tuple(x), tuple(y)))
    return clues


def large_cases():
    """Lists of 40 clues, with names."""
    chance = random.Random(61)
    tree = chance_tree(chance, SCHEMA, list(VALUES))
    flat = [(column, "down last") for column in (3, 1, 5, 0, 2, 4)]
    row, other = (LARGE,) * 6, (LARGE - 1,) * 6
    return {
        "told by a flat rule": told_clues(chance, SCHEMA, flat, 40, VALUES),
        "told by a tree": told_clues(chance, SCHEMA, tree, 40, VALUES),
        "by chance": chance_clues(chance, SCHEMA, 40, VALUES),
        "all equal": [("ahead", other, row)] * 40, "all equal, none ahead": [("alike", row, row)] * 40,
        "never": [("ahead", row, row)] * 40, "each unlocks another": unlocking(),
        "each unlocks another, last to first": unlocking()[::-1],
        "no two in one part": [("alike", (LARGE - at,) * 6, (LARGE - at,) * 6) for at in range(40)],
        "parted column by column": [("ahead", tuple([at >> column & 1 for column in range(5)] + [at % 2]),
                                     tuple([at >> column & 1 for column in range(5)] + [1 - at % 2]))
                                    for at in range(32)] + [("not behind", row, other)] * 8}


class Promptness(unittest.TestCase):
    def setUp(self):
        self.cases = large_cases()

    def promptly(self, function, *arguments, **named):
        """What the function returns, within half a second."""
        start = time.perf_counter()
        got = function(*arguments, **named)
        self.assertLess(time.perf_counter() - start, 0.5, function.__name__)
        return got

    def test_find_and_groups_and_is_knot(self):
        words = {}
        for name, clues in self.cases.items():
            self.assertEqual(len(clues), 40, name)
            for branching in ((), (2,), (5, 3, 1), ALL):
                for without in ((), (0,), (5, 4)):
                    answer = self.promptly(find, SCHEMA, clues, branching=branching, without=without)
                    word = check_answer(self, SCHEMA, clues, answer, branching, without)
                    parts = self.promptly(groups, SCHEMA, clues, branching=branching, without=without)
                    ends = [clues[number][0] for part in parts for number in part]
                    self.assertEqual("ahead" in ends, word == "knot")
                    self.promptly(is_knot, SCHEMA, clues, list(range(40)), branching=branching, without=without)
                    words[name, branching, without] = word
        for name in ("told by a flat rule", "all equal", "each unlocks another", "each unlocks another, last to first"):
            self.assertEqual(words[name, (), ()], "rule", name)
        self.assertEqual(words["told by a tree", ALL, ()], "rule")
        self.assertEqual([words["parted column by column", columns, ()] for columns in ((), ALL)], ["knot", "rule"])

    def test_each_unlocks_another(self):
        for clues in (unlocking(), unlocking()[::-1]):
            flat = find(SCHEMA, clues)[1]
            self.assertEqual([column for column, _ in flat], [5, 4, 3, 2, 1, 0])
            self.assertEqual(len(needed(SCHEMA, clues)), 6)
            self.assertEqual(how_many(SCHEMA, clues), 2 ** 6)

    def test_listing(self):
        for clues in self.cases.values():
            many = self.promptly(how_many, SCHEMA, clues)
            found = self.promptly(question, SCHEMA, clues)
            self.assertEqual(found is None, many < 2)
            if many < 50000:
                self.assertEqual(len(list(all_rules(SCHEMA, clues))), many)
            for flat in found[2:] if found else []:
                self.assertTrue(explains(flat, clues))
                self.promptly(teach, SCHEMA, flat)

    def test_saying(self):
        for clues in self.cases.values():
            steps = [(column, order) for column in (0, 5) for order in ORDERS[:2]]
            for branching in ((), (4, 2), ALL):
                if find(SCHEMA, clues, branching=branching)[0] == "rule":
                    rows = (clues[0][1], clues[-1][2])
                    self.assertEqual(len(self.promptly(says, SCHEMA, clues, *rows, branching=branching)), 3)
                    self.promptly(needed, SCHEMA, clues, branching=branching)
            if find(SCHEMA, clues, branching=ALL)[0] == "rule":
                self.promptly(must_branch, SCHEMA, clues)
            for step in steps:
                for before in ((), (3, 0)):
                    self.promptly(is_bar, SCHEMA, clues, step, list(range(40)), before=before)
                    if find(SCHEMA, clues)[0] == "rule":
                        word, found = self.promptly(usable, SCHEMA, clues, step, before=before)
                        if word == "rule":
                            check_rule(self, SCHEMA, clues, found)
                            self.assertIn(step, found)
                        else:
                            self.assertTrue(is_bar(SCHEMA, clues, step, found, before=before))

    def test_clues(self):
        tree = None
        for column in ALL:
            tree = (column, "up first", [(LARGE - value, tree if value == 0 else None) for value in range(300)], tree)
        for clues in self.cases.values():
            for rule in (tree, [(column, "down last") for column in ALL], None):
                got = self.promptly(broken, SCHEMA, rule, clues)
                self.assertEqual(got, [at for at, clue in enumerate(clues) if not explains(rule, [clue])])
            self.assertTrue(all(self.promptly(is_clue, SCHEMA, clue) for clue in clues))
            self.promptly(stance, SCHEMA, (5, "down last"), clues[-1])


class PassedAgain(unittest.TestCase):
    def test_a_rule_that_was_found(self):
        chance = random.Random(62)
        for _ in range(20):
            clues = told_clues(chance, SCHEMA, chance_tree(chance, SCHEMA, [None, 0, 1]), 40)
            tree = find(SCHEMA, clues, branching=ALL)[1]
            self.assertEqual(broken(SCHEMA, tree, clues), [])
            word, flat = find(SCHEMA, clues)
            if word == "rule":
                self.assertEqual(broken(SCHEMA, flat, clues), [])
                self.assertEqual(list(all_rules(SCHEMA, teach(SCHEMA, flat))), [flat])
                self.assertEqual(broken(SCHEMA, tree_of(SCHEMA, flat), clues), [])

    def test_clues_that_teach_a_rule_put_together(self):
        chance = random.Random(63)
        flat = chance_flat(chance, SCHEMA)
        clues = teach(SCHEMA, flat) * 10
        self.assertEqual(find(SCHEMA, clues)[0], "rule")
        self.assertEqual(list(all_rules(SCHEMA, clues)), [flat])
        more = clues + teach(SCHEMA, flat[::-1])
        for branching in ((), ALL):
            answer = find(SCHEMA, more, branching=branching)
            check_answer(self, SCHEMA, more, answer, branching)
        if len(flat) > 1:
            self.assertEqual(find(SCHEMA, more)[0], "knot")

    def test_groups_as_numbers(self):
        chance = random.Random(64)
        for _ in range(50):
            clues = chance_clues(chance, SCHEMA, 30, (None, 0))
            for branching in ((), (3, 1)):
                for group in groups(SCHEMA, clues, branching=branching):
                    has_ahead = "ahead" in [clues[number][0] for number in group]
                    self.assertIs(is_knot(SCHEMA, clues, group, branching=branching), has_ahead)


if __name__ == "__main__":
    unittest.main()
