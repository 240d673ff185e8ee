"""Point 19: changes of evidence, one after the other, and the way back."""

import copy
import operator
import random
import unittest

from samples import ODD, SCHEMA, chance_schema
from search import chance_clues, chance_columns, chance_rows
from wrong import CLUE, HIGH, LOW, NO_CLUE, NO_ROWS

from sortclues.errors import NoClue, NoNumber, NoRow, Unexplained, Unlike
from sortclues.evidence import Evidence
from sortclues.finding import find
from sortclues.saying import says

UP = [("up first",), ("up first",)]
ONE, TWO, THREE = ("ahead", (1, 1), (1, 2)), ("alike", (2, 2), (2, 1)), ("not behind", (3, 3), (4, 3))
NO_NUMBERS = [thing for thing in ODD if thing not in (0, 1) or isinstance(thing, bool)] + [
    None, True, False, -1, -2, -3, -10 ** 30, 3, 4, 10 ** 30, "0", "1", "", [], [0], (0,), (1, 2), [[0]], CLUE]


class Changes(unittest.TestCase):
    def test_see(self):
        evidence = Evidence(UP, [ONE])
        self.assertIsNone(evidence.see(*TWO))
        self.assertIsNone(evidence.see(*ONE))
        self.assertEqual(evidence.clues(), [ONE, TWO, ONE])

    def test_chain(self):
        rows = [(at, 9 - at) for at in range(40)]
        for many in (0, 1, 2, 3, 40):
            evidence = Evidence(UP, [ONE])
            self.assertIsNone(evidence.chain(*rows[:many]))
            links = [("not behind", rows[at], rows[at + 1]) for at in range(many - 1)]
            self.assertEqual(evidence.clues(), [ONE] + links)
            self.assertEqual([evidence.back(), evidence.clues(), evidence.back()], [True, [ONE], False])
        evidence = Evidence(UP)
        evidence.chain((1, 1), (1, 1), (1, 1))
        self.assertEqual(evidence.clues(), [("not behind", (1, 1), (1, 1))] * 2)

    def test_items(self):
        evidence = Evidence(UP, [ONE, TWO, THREE])
        self.assertEqual([evidence[k] for k in range(3)], [ONE, TWO, THREE])
        evidence[1] = ONE
        evidence[0] = THREE
        evidence[2] = TWO
        self.assertEqual(evidence.clues(), [THREE, ONE, TWO])

    def test_drop(self):
        for k in range(3):
            evidence = Evidence(UP, [ONE, TWO, THREE])
            self.assertIsNone(evidence.drop(k))
            self.assertEqual(evidence.clues(), [ONE, TWO, THREE][:k] + [ONE, TWO, THREE][k + 1:])
        evidence = Evidence(UP, [ONE, ONE])
        evidence.drop(0)
        self.assertEqual(evidence.clues(), [ONE])
        evidence.drop(0)
        self.assertEqual((evidence.clues(), len(evidence)), ([], 0))

    def test_back_after_what_left_all_as_before(self):
        evidence = Evidence(UP, [ONE, TWO])
        evidence.chain()
        evidence.chain((5, 5))
        evidence[1] = TWO
        evidence &= evidence
        evidence &= Evidence(UP, [TWO, ONE])
        evidence &= Evidence(UP)
        evidence.drop(0)
        for expected in [[ONE, TWO]] * 7:
            self.assertIs(evidence.back(), True)
            self.assertEqual(evidence.clues(), expected)
        self.assertIs(evidence.back(), False)
        self.assertIs(evidence.back(), False)
        self.assertEqual(evidence.clues(), [ONE, TWO])

    def test_back_and_then_another_change(self):
        evidence = Evidence(UP)
        evidence.see(*ONE)
        evidence.see(*TWO)
        self.assertIs(evidence.back(), True)
        evidence.see(*THREE)
        self.assertEqual(evidence.clues(), [ONE, THREE])
        self.assertEqual([evidence.back(), evidence.clues()], [True, [ONE]])
        self.assertEqual([evidence.back(), evidence.clues(), evidence.back()], [True, [], False])


class LongChains(unittest.TestCase):
    def change(self, chance, evidence, clues):
        """One change made by chance; the clues that must be there behind it."""
        kind = chance.choice(["see", "chain", "item", "drop", "and"])
        schema = SCHEMA
        clue, = chance_clues(chance, schema, 1)
        k = chance.randrange(len(clues)) if clues else 0
        if kind == "see" or not clues and kind in ("item", "drop"):
            evidence.see(*clue)
            return clues + [clue]
        if kind == "chain":
            rows = [chance_rows(chance, schema, [None, 0, 1])[0] for _ in range(chance.randint(0, 4))]
            evidence.chain(*rows)
            return clues + [("not behind", *pair) for pair in zip(rows, rows[1:])]
        if kind == "item":
            evidence[k] = clue
            return clues[:k] + [clue] + clues[k + 1:]
        if kind == "drop":
            evidence.drop(k)
            return clues[:k] + clues[k + 1:]
        others = chance_clues(chance, schema, 3) + chance.choices(clues + [clue], k=3)
        evidence &= Evidence(schema, others)
        return clues + [other for at, other in enumerate(others) if other not in clues + others[:at]]

    def ask(self, evidence, clues):
        """All that the evidence tells is what the functions say of the list of the clues."""
        word, found = find(SCHEMA, clues)
        self.assertEqual(evidence.find(), (word, found))
        if word == "knot":
            self.assertRaises(Unexplained, evidence.sorter)
            self.assertRaises(Unexplained, evidence.says, LOW, HIGH)
        else:
            self.assertEqual(evidence.sorter().rule, found)
            self.assertEqual(evidence.says(LOW, HIGH), says(SCHEMA, clues, LOW, HIGH))
        self.assertEqual([evidence[k] for k in range(len(evidence))], clues)
        self.assertTrue(all(clue in evidence for clue in clues))

    def test_changes_and_back_made_by_chance(self):
        for seed, often in ((93, 0.0), (94, 0.3), (95, 1.0)):
            chance = random.Random(seed)
            for _ in range(15):
                first = chance_clues(chance, SCHEMA, chance.randint(0, 3))
                evidence, states = Evidence(SCHEMA, first), [first]
                for _ in range(60):
                    if len(states) > 1 and (chance.random() < 0.4 or len(states[-1]) > 30):
                        states.pop()
                        self.assertIs(evidence.back(), True)
                    else:
                        states.append(self.change(chance, evidence, states[-1]))
                    self.assertEqual((evidence.clues(), len(evidence)), (states[-1], len(states[-1])))
                    if chance.random() < often:
                        self.ask(evidence, states[-1])
                self.ask(evidence, states[-1])
                while len(states) > 1:
                    states.pop()
                    self.assertIs(evidence.back(), True)
                    self.assertEqual(evidence.clues(), states[-1])
                self.assertIs(evidence.back(), False)
                self.ask(evidence, first)

    def test_with_branching(self):
        chance = random.Random(96)
        for _ in range(60):
            schema = chance_schema(chance, 3)
            branching = chance_columns(chance, schema)
            evidence, clues = Evidence(schema, branching=branching), []
            for clue in chance_clues(chance, schema, 5):
                evidence.see(*clue)
                clues.append(clue)
                self.assertEqual(evidence.find(), find(schema, clues, branching=branching))
            while clues:
                evidence.back()
                clues.pop()
                self.assertEqual(evidence.find(), find(schema, clues, branching=branching))


class Refused(unittest.TestCase):
    def setUp(self):
        self.clues = [CLUE, ("alike", HIGH, HIGH), CLUE]
        self.evidence = Evidence(SCHEMA, self.clues)
        self.evidence.see("ahead", LOW, LOW)
        self.evidence.back()
        self.evidence.drop(0)
        self.evidence.back()

    def refused(self, error, call, *arguments):
        """The call raises just this error, and all is as it was before, with nothing more to be taken back."""
        before = copy.deepcopy(arguments)
        with self.assertRaises(error) as caught:
            call(*arguments)
        self.assertIs(type(caught.exception), error)
        self.assertEqual(arguments, before)
        self.assertEqual(self.evidence.clues(), self.clues)
        self.assertIs(self.evidence.back(), False)

    def set_item(self, k, clue):
        """What an assignment does."""
        self.evidence[k] = clue

    def test_numbers_of_no_clue(self):
        for k in NO_NUMBERS:
            self.refused(NoNumber, lambda k: self.evidence[k], k)
            self.refused(NoNumber, self.evidence.drop, k)
            self.refused(NoNumber, self.set_item, k, CLUE)
            self.refused(NoNumber, self.set_item, k, None)
        for k in (0, -1, True, False):
            self.assertRaises(NoNumber, Evidence(UP).drop, k)
            with self.assertRaises(NoNumber):
                Evidence(UP)[k]

    def test_no_clue(self):
        for thing in NO_CLUE:
            self.refused(NoClue, self.set_item, 2, thing)
            if isinstance(thing, tuple) and len(thing) == 3:
                self.refused(NoClue, self.evidence.see, *thing)
        for thing in ODD + [None, CLUE, "ahead", LOW]:
            self.refused(NoClue, self.evidence.see, thing, thing, thing)
            if thing not in ("ahead", "alike"):
                self.refused(NoClue, self.evidence.see, thing, LOW, HIGH)

    def test_no_row(self):
        for thing in NO_ROWS:
            for rows in ((thing,), (thing, LOW), (LOW, HIGH, thing), (LOW, thing, HIGH, LOW)):
                self.refused(NoRow, self.evidence.chain, *rows)
        self.refused(NoRow, self.evidence.chain, [LOW, HIGH])
        self.refused(NoRow, self.evidence.says, None, LOW)

    def test_unlike_and_unexplained(self):
        for other in (None, [CLUE], Evidence(UP), Evidence(SCHEMA, branching=(0,))):
            for call in (lambda one, two: one & two, lambda one, two: one <= two, operator.iand):
                with self.assertRaises(Unlike):
                    call(self.evidence, other)
                self.assertEqual((self.evidence.clues(), self.evidence.back()), (self.clues, False))
        self.clues.append(("ahead", LOW, LOW))
        self.evidence = Evidence(SCHEMA, self.clues)
        self.refused(Unexplained, self.evidence.sorter)
        self.refused(Unexplained, self.evidence.says, LOW, HIGH)


if __name__ == "__main__":
    unittest.main()
