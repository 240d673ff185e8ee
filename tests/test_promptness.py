"""Points 2 and 3: prompt answers for the largest questions, and returned things that are passed again."""

import operator
import random
import time
import unittest

from samples import ORDERS, chance_flat, chance_tree, opinion, tuples_of_four, wide_tree
from search import check_answer, check_knot, check_rule, chance_clues, explains, told_clues

from sortclues.clues import broken, is_clue, stance
from sortclues.conflicts import implied, lean, least_conflict
from sortclues.errors import NoText, Unexplained
from sortclues.evidence import Evidence
from sortclues.finding import find, groups, is_knot
from sortclues.listing import all_rules, how_many, question, teach
from sortclues.rules import compare, tree_of
from sortclues.saying import is_bar, must_branch, needed, says, usable
from sortclues.sorter import Sorter
from sortclues.texts import (clue_text, clues_text, flat_text, read_clue, read_clues, read_flat, read_tree, tree_text)

SCHEMA = [ORDERS] * 6
ALL = (0, 1, 2, 3, 4, 5)
LARGE = 10 ** 30 - 1
VALUES = (None, LARGE, LARGE - 1, -LARGE, 0)


def unlocking():
    """Clues of which those of one column close what each order of all columns before it is against."""
    clues = []
    for at in range(40):
        column = 5 - at % 6
        x, y = [LARGE - at] * 6, [LARGE - at] * 6
        x[column] -= 1
        for earlier in range(column):
            x[earlier] += 1 if at // 6 % 2 else -1
        clues.append(("ahead", tuple(x), tuple(y)))
    return clues


def large_cases():
    """Lists of 40 clues, with names."""
    chance = random.Random(61)
    tree = chance_tree(chance, SCHEMA, list(VALUES))
    flat = [(column, "down last") for column in (3, 1, 5, 0, 2, 4)]
    row, other = (LARGE,) * 6, (LARGE - 1,) * 6
    return {
        "told by a flat rule": told_clues(chance, SCHEMA, flat, 40, VALUES),
        "told by a tree": told_clues(chance, SCHEMA, tree, 40, VALUES),
        "by chance": chance_clues(chance, SCHEMA, 40, VALUES),
        "all equal": [("ahead", other, row)] * 40, "all equal, none ahead": [("alike", row, row)] * 40,
        "never": [("ahead", row, row)] * 40, "each unlocks another": unlocking(),
        "each unlocks another, last to first": unlocking()[::-1],
        "no two in one part": [("alike", (LARGE - at,) * 6, (LARGE - at,) * 6) for at in range(40)],
        "parted column by column": [("ahead", tuple([at >> column & 1 for column in range(5)] + [at % 2]),
                                     tuple([at >> column & 1 for column in range(5)] + [1 - at % 2]))
                                    for at in range(32)] + [("not behind", row, other)] * 8}


class Prompt(unittest.TestCase):
    def setUp(self):
        self.cases = large_cases()

    def promptly(self, function, *arguments, **named):
        """What the function returns, within half a second."""
        start = time.perf_counter()
        got = function(*arguments, **named)
        self.assertLess(time.perf_counter() - start, 0.5, getattr(function, "__name__", function))
        return got


class Functions(Prompt):
    def test_find_and_groups_and_is_knot(self):
        words = {}
        for name, clues in self.cases.items():
            self.assertEqual(len(clues), 40, name)
            for branching in ((), (2,), (5, 3, 1), ALL):
                for without in ((), (0,), (5, 4)):
                    answer = self.promptly(find, SCHEMA, clues, branching=branching, without=without)
                    word = check_answer(self, SCHEMA, clues, answer, branching, without)
                    parts = self.promptly(groups, SCHEMA, clues, branching=branching, without=without)
                    ends = [clues[number][0] for part in parts for number in part]
                    self.assertEqual("ahead" in ends, word == "knot")
                    self.promptly(is_knot, SCHEMA, clues, list(range(40)), branching=branching, without=without)
                    words[name, branching, without] = word
        for name in ("told by a flat rule", "all equal", "each unlocks another", "each unlocks another, last to first"):
            self.assertEqual(words[name, (), ()], "rule", name)
        self.assertEqual(words["told by a tree", ALL, ()], "rule")
        self.assertEqual([words["parted column by column", columns, ()] for columns in ((), ALL)], ["knot", "rule"])

    def test_each_unlocks_another(self):
        for clues in (unlocking(), unlocking()[::-1]):
            flat = find(SCHEMA, clues)[1]
            self.assertEqual([column for column, _ in flat], [5, 4, 3, 2, 1, 0])
            self.assertEqual(len(needed(SCHEMA, clues)), 6)
            self.assertEqual(how_many(SCHEMA, clues), 2 ** 6)

    def test_listing(self):
        for clues in self.cases.values():
            many = self.promptly(how_many, SCHEMA, clues)
            found = self.promptly(question, SCHEMA, clues)
            self.assertEqual(found is None, many < 2)
            if many < 50000:
                self.assertEqual(len(list(all_rules(SCHEMA, clues))), many)
            for flat in found[2:] if found else []:
                self.assertTrue(explains(flat, clues))
                self.promptly(teach, SCHEMA, flat)

    def test_saying(self):
        for clues in self.cases.values():
            steps = [(column, order) for column in (0, 5) for order in ORDERS[:2]]
            for branching in ((), (4, 2), ALL):
                if find(SCHEMA, clues, branching=branching)[0] == "rule":
                    rows = (clues[0][1], clues[-1][2])
                    self.assertEqual(len(self.promptly(says, SCHEMA, clues, *rows, branching=branching)), 3)
                    self.promptly(needed, SCHEMA, clues, branching=branching)
            if find(SCHEMA, clues, branching=ALL)[0] == "rule":
                self.promptly(must_branch, SCHEMA, clues)
            for step in steps:
                for before in ((), (3, 0)):
                    self.promptly(is_bar, SCHEMA, clues, step, list(range(40)), before=before)
                    if find(SCHEMA, clues)[0] == "rule":
                        word, found = self.promptly(usable, SCHEMA, clues, step, before=before)
                        if word == "rule":
                            check_rule(self, SCHEMA, clues, found)
                            self.assertIn(step, found)
                        else:
                            self.assertTrue(is_bar(SCHEMA, clues, step, found, before=before))

    def test_clues(self):
        tree = None
        for column in ALL:
            tree = (column, "up first", [(LARGE - value, tree if value == 0 else None) for value in range(300)], tree)
        for clues in self.cases.values():
            for rule in (tree, [(column, "down last") for column in ALL], None):
                got = self.promptly(broken, SCHEMA, rule, clues)
                self.assertEqual(got, [at for at, clue in enumerate(clues) if not explains(rule, [clue])])
            self.assertTrue(all(self.promptly(is_clue, SCHEMA, clue) for clue in clues))
            self.promptly(stance, SCHEMA, (5, "down last"), clues[-1])


class Conflicts(Prompt):
    def test_implied(self):
        for clues in self.cases.values():
            for branching in ((), (5, 3, 1), ALL):
                for clue in (clues[0], clues[-1], ("alike", *clues[7][1:]), ("ahead", clues[7][2], clues[0][1])):
                    word, found = self.promptly(implied, SCHEMA, clues, clue, branching=branching)
                    if word == "rule":
                        check_rule(self, SCHEMA, clues, found, branching)
                        self.assertFalse(explains(found, [clue]))

    def test_least_conflict_and_lean(self):
        for name, clues in self.cases.items():
            for branching in ((), (5, 3, 1), ALL):
                if find(SCHEMA, clues, branching=branching)[0] == "knot":
                    numbers, rules = self.promptly(least_conflict, SCHEMA, clues, branching=branching)
                    check_knot(self, SCHEMA, clues, numbers, branching)
                    self.assertLessEqual((len(numbers), len(rules)), (13, len(numbers)))
                    for at, rule in enumerate(rules):
                        others = [clues[number] for number in numbers[:at] + numbers[at + 1:]]
                        check_rule(self, SCHEMA, others, rule, branching)
                else:
                    left = self.promptly(lean, SCHEMA, clues, branching=branching)
                    if "all equal" in name:
                        self.assertEqual(left, [] if "none ahead" in name else [39])
                    one = Evidence(SCHEMA, [clues[number] for number in left], branching=branching)
                    other = Evidence(SCHEMA, clues, branching=branching)
                    self.assertIs(self.promptly(operator.le, one, other), True)


class Evidences(Prompt):
    def test_each_method(self):
        for clues in self.cases.values():
            for branching in ((), (4, 2), ALL):
                evidence = self.promptly(Evidence, SCHEMA, clues, branching=branching)
                other = Evidence(SCHEMA, tuple(clues[::-1]), branching=branching[::-1])
                self.assertIs(self.promptly(operator.le, evidence, other), True)
                self.assertIs(self.promptly(operator.eq, evidence, other), clues == clues[::-1])
                self.assertEqual(len(self.promptly(operator.and_, evidence, other)), 40)
                self.assertIs(self.promptly(operator.iand, evidence, other), evidence)
                self.assertIs(self.promptly(operator.contains, evidence, clues[39]), True)
                self.assertEqual(self.promptly(evidence.find), find(SCHEMA, clues, branching=branching))
                for call, *rows in ((evidence.sorter,), (evidence.says, clues[0][1], clues[1][2])):
                    try:
                        self.promptly(call, *rows)
                    except Unexplained:
                        self.assertEqual(evidence.find()[0], "knot")

    def test_long_chains_of_changes_and_of_back(self):
        clues = self.cases["by chance"]

        def change(evidence):
            for at in range(1000):
                evidence.see(*clues[at % 40])
                evidence[0] = clues[at % 7]
                evidence.drop(len(evidence) - 1)

        def all_back(evidence):
            many = 0
            while evidence.back():
                many += 1
            return many

        evidence = Evidence(SCHEMA, clues[:39])
        for _ in range(5):
            self.promptly(change, evidence)
        self.assertEqual(len(evidence), 39)
        self.assertEqual(self.promptly(all_back, evidence), 15000)
        self.assertEqual(evidence.clues(), clues[:39])

    def test_chains_of_forty_rows(self):
        chance = random.Random(65)
        for branching in ((), ALL):
            tree = chance_tree(chance, SCHEMA, list(VALUES))
            rows = Sorter(SCHEMA, tree).arranged([tuple(chance.choices(VALUES, k=6)) for _ in range(40)])
            evidence = Evidence(SCHEMA, branching=branching)
            self.promptly(evidence.chain, *rows)
            self.assertIs(self.promptly(evidence.sorter).shown(rows), True)


class Sorters(Prompt):
    def test_sixty_rows(self):
        chance = random.Random(66)
        wide = (0, "up last", [(LARGE - at, (1, "down first", [(value, None) for value in range(30)], None))
                               for at in range(299)], None)
        rules = [[], None, wide, [(column, "down last") for column in (3, 1, 5, 0, 2, 4)],
                 wide_tree(ALL[:2], 17), chance_tree(chance, SCHEMA, list(VALUES))]
        lists = [[tuple(chance.choices(VALUES, k=6)) for _ in range(60)], [(LARGE,) * 6] * 60,
                 [(LARGE - at % 5, at % 3, LARGE, None, 0, -at) for at in range(60)]]
        for rule in rules:
            sorter = self.promptly(Sorter, SCHEMA, rule)
            self.assertEqual(self.promptly(lambda: sorter.rule), rule)
            self.assertIs(self.promptly(operator.eq, sorter, Sorter(SCHEMA, rule)), True)
            self.assertIs(self.promptly(operator.eq, -self.promptly(operator.neg, sorter), sorter), True)
            for rows in lists:
                got = self.promptly(sorter.arranged, rows)
                self.assertEqual(sorted(got, key=str), sorted(rows, key=str))
                self.assertIs(self.promptly(sorter.shown, got), True)
                self.assertTrue(all(opinion(rule, x, y) != 1 for x, y in zip(got, got[1:])))
                self.assertEqual(self.promptly(sorter, *rows[:2]), compare(SCHEMA, rule, *rows[:2]))


class Texts(Prompt):
    def test_trees_of_300_tuples(self):
        deep = None
        for column in ALL:
            deep = (column, "up first", [(LARGE - value, deep if value < 2 else None) for value in range(30)], deep)
        wide = (0, "up last", [(-at, (1, "down first", [], None)) for at in range(299)], None)
        for tree in (deep, wide, wide_tree((3, 1, 4), 17)):
            self.assertGreaterEqual(tuples_of_four(tree), 300)
            text = self.promptly(tree_text, tree)
            self.assertEqual(self.promptly(read_tree, SCHEMA, text), tree)
            with self.assertRaises(NoText) as caught:
                self.promptly(read_tree, SCHEMA, text[:-1])
            self.assertEqual(caught.exception.line, len(text.split("\n")))

    def test_texts_of_4000_characters(self):
        number = "-" + "7" * 3980
        clue = self.promptly(read_clue, [ORDERS], f"{number} ahead empty")
        self.assertEqual(self.promptly(clue_text, clue), f"{number} ahead empty")
        for text in ("\n" * 4000, " " * 4000, "0" * 4000, ":" * 4000, ", " * 2000, "0 up last, " * 360, "alike\n" * 660,
                     "0 up last\n" * 400, "  " * 2000 + "alike", "7" * 4000 + ":", "-" * 4000, "empty " * 660):
            for read in (read_flat, read_tree, read_clue, read_clues):
                with self.assertRaises(NoText) as caught:
                    self.promptly(read, SCHEMA, text)
                self.assertIn(caught.exception.line, (1, 2))
        many = "0 up last\n" + "".join(f"{at}:\n  alike\n" for at in range(270)) + "else:\n  alike"
        self.assertLess(len(many), 4000)
        self.assertEqual(self.promptly(tree_text, self.promptly(read_tree, SCHEMA, many)), many)
        self.assertEqual(self.promptly(read_flat, SCHEMA, flat_text([(5, "up last"), (0, "up last")])),
                         [(5, "up last"), (0, "up last")])

    def test_texts_of_forty_clues(self):
        for clues in self.cases.values():
            text = self.promptly(clues_text, clues)
            self.assertEqual(self.promptly(read_clues, SCHEMA, text), clues)


class PassedAgain(unittest.TestCase):
    def test_a_rule_that_was_found(self):
        chance = random.Random(62)
        for _ in range(20):
            clues = told_clues(chance, SCHEMA, chance_tree(chance, SCHEMA, [None, 0, 1]), 40)
            tree = find(SCHEMA, clues, branching=ALL)[1]
            self.assertEqual(broken(SCHEMA, tree, clues), [])
            word, flat = find(SCHEMA, clues)
            if word == "rule":
                self.assertEqual(broken(SCHEMA, flat, clues), [])
                self.assertEqual(list(all_rules(SCHEMA, teach(SCHEMA, flat))), [flat])
                self.assertEqual(broken(SCHEMA, tree_of(SCHEMA, flat), clues), [])

    def test_clues_that_teach_a_rule_put_together(self):
        chance = random.Random(63)
        flat = chance_flat(chance, SCHEMA)
        clues = teach(SCHEMA, flat) * 10
        self.assertEqual(find(SCHEMA, clues)[0], "rule")
        self.assertEqual(list(all_rules(SCHEMA, clues)), [flat])
        more = clues + teach(SCHEMA, flat[::-1])
        for branching in ((), ALL):
            answer = find(SCHEMA, more, branching=branching)
            check_answer(self, SCHEMA, more, answer, branching)
        if len(flat) > 1:
            self.assertEqual(find(SCHEMA, more)[0], "knot")

    def test_groups_as_numbers(self):
        chance = random.Random(64)
        for _ in range(50):
            clues = chance_clues(chance, SCHEMA, 30, (None, 0))
            for branching in ((), (3, 1)):
                for group in groups(SCHEMA, clues, branching=branching):
                    has_ahead = "ahead" in [clues[number][0] for number in group]
                    self.assertIs(is_knot(SCHEMA, clues, group, branching=branching), has_ahead)


if __name__ == "__main__":
    unittest.main()
