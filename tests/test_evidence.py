"""Point 19: the class Evidence, what it tells, and how two of them go together."""

import copy
import inspect
import itertools
import random
import unittest

from samples import NO_SCHEMAS, ODD, ORDERS, SCHEMA, chance_flat, chance_schema, chance_tree, share_a_list
from search import check_answer, chance_clues, chance_columns, chance_rows, explains, flat_rules, has_rule, told_clues
from wrong import CLUE, HIGH, LOW, NO_CLUE, NO_CLUES, NO_COLUMNS, NO_ROWS

from sortclues import evidence as module
from sortclues.conflicts import implied
from sortclues.errors import NoClues, NoColumns, NoRow, NoSchema, Unexplained, Unlike
from sortclues.evidence import Evidence
from sortclues.finding import find
from sortclues.saying import says
from sortclues.sorter import Sorter

UP = [("up first",), ("up first",)]
BOTH_WAYS = [("up first",), ("up first", "down first")]
CROSSED = [("ahead", (1, 1), (1, 2)), ("ahead", (2, 2), (2, 1))]
OTHERS = ODD + [None, UP, CROSSED, CROSSED[0], "evidence"]


class TheExample(unittest.TestCase):
    def test_point_19(self):
        evidence = Evidence([("up first",), ("up first",)])
        evidence.chain((1, 9), (1, 0), (2, 5))
        got = [len(evidence), evidence[0], ("not behind", (1, 0), (2, 5)) in evidence, evidence.find()[0],
               evidence.back(), len(evidence)]
        self.assertEqual(got, [2, ("not behind", (1, 9), (1, 0)), True, "rule", True, 0])


class Interface(unittest.TestCase):
    def test_names_and_arguments(self):
        listed = {"__init__": "(self, schema, clues=(), *, branching=())", "see": "(self, word, x, y)",
                  "chain": "(self, *rows)", "drop": "(self, k)", "back": "(self)", "clues": "(self)",
                  "find": "(self)", "says": "(self, x, y)", "sorter": "(self)"}
        for name, arguments in listed.items():
            self.assertEqual(str(inspect.signature(vars(Evidence)[name])), arguments)
        self.assertEqual((Evidence.__module__, Evidence.__bases__), ("sortclues.evidence", (object,)))
        self.assertIs(vars(module)["Evidence"], Evidence)
        for name in ("getitem", "setitem", "contains", "len", "eq", "and", "iand", "le"):
            self.assertIn(f"__{name}__", vars(Evidence))

    def test_arguments_by_name(self):
        evidence = Evidence(branching=(1,), clues=CROSSED, schema=BOTH_WAYS)
        self.assertEqual(evidence, Evidence(BOTH_WAYS, CROSSED, branching=(1,)))
        evidence.see(y=(5, 5), word="not behind", x=(6, 5))
        self.assertEqual(evidence[2], ("not behind", (6, 5), (5, 5)))
        evidence.drop(k=1)
        self.assertEqual(evidence.clues(), [CROSSED[0], ("not behind", (6, 5), (5, 5))])
        self.assertEqual(evidence.says(y=(6, 6), x=(5, 5)), evidence.says((5, 5), (6, 6)))

    def test_branching_by_name_only(self):
        self.assertRaises(TypeError, Evidence, UP, [], ())


class Made(unittest.TestCase):
    def test_a_list_and_a_tuple_of_clues(self):
        for clues in ([], CROSSED, CROSSED * 3):
            for given in (list(clues), tuple(clues)):
                evidence = Evidence(BOTH_WAYS, given)
                self.assertEqual((evidence.clues(), len(evidence)), (clues, len(clues)))
                self.assertIs(type(evidence.clues()), list)
                self.assertEqual(evidence, Evidence(BOTH_WAYS, clues))
        self.assertEqual(Evidence(UP).clues(), [])

    def test_a_new_one_has_nothing_to_be_taken_back(self):
        for clues in ([], CROSSED):
            evidence = Evidence(BOTH_WAYS, clues)
            self.assertIs(evidence.back(), False)
            self.assertEqual(evidence.clues(), clues)

    def test_a_later_change_of_an_argument_has_no_effect(self):
        schema, clues = copy.deepcopy(BOTH_WAYS), list(CROSSED)
        evidence = Evidence(schema, clues, branching=(0,))
        found = evidence.find()
        schema.clear()
        clues.append("changed")
        self.assertEqual((evidence.clues(), evidence.find()), (CROSSED, found))
        self.assertEqual(evidence, Evidence(BOTH_WAYS, CROSSED, branching=(0,)))
        evidence.see("alike", (1, 1), (2, 2))
        self.assertEqual(clues, CROSSED + ["changed"])

    def test_returned_lists_belong_to_the_caller(self):
        evidence = Evidence(BOTH_WAYS, CROSSED, branching=(0,))
        for read in (evidence.clues, evidence.find, lambda: evidence.says((1, 1), (2, 2)),
                     lambda: evidence.sorter().rule):
            first, expected = read(), read()
            self.assertFalse(share_a_list(first, expected))
            part = first if isinstance(first, list) else first[2] if len(first) == 4 else first[1][2]
            part.append("changed")
            part.reverse()
            self.assertEqual(read(), expected)
        self.assertEqual(evidence.clues(), CROSSED)

    def test_refusals(self):
        for schema in NO_SCHEMAS:
            self.assertRaises(NoSchema, Evidence, schema)
            self.assertRaises(NoSchema, Evidence, schema, 0, branching=0)
        tuples = [tuple(thing) for thing in NO_CLUES if isinstance(thing, list)]
        for clues in [thing for thing in NO_CLUES if thing not in ((), (CLUE,), (CLUE, CLUE))] + tuples:
            before = repr(clues)
            self.assertRaises(NoClues, Evidence, SCHEMA, clues)
            self.assertRaises(NoClues, Evidence, SCHEMA, clues, branching=(3,))
            self.assertEqual(repr(clues), before)
        for columns in NO_COLUMNS:
            self.assertRaises(NoColumns, Evidence, SCHEMA, branching=columns)
            self.assertRaises(NoColumns, Evidence, SCHEMA, (CLUE,), branching=columns)


class Asked(unittest.TestCase):
    def test_as_the_functions_say(self):
        chance = random.Random(91)
        words = {"rule": 0, "knot": 0}
        for _ in range(300):
            schema = chance_schema(chance, 3)
            clues = chance_clues(chance, schema, chance.randint(0, 4))
            branching = chance.choice([(), chance_columns(chance, schema), tuple(range(len(schema)))])
            evidence = Evidence(schema, clues, branching=branching)
            got = evidence.find()
            word = check_answer(self, schema, clues, got, branching)
            self.assertEqual(got, find(schema, clues, branching=branching))
            x, y = chance_rows(chance, schema, [None, 0, 1])
            if word == "knot":
                self.assertRaises(Unexplained, evidence.says, x, y)
                self.assertRaises(Unexplained, evidence.sorter)
            else:
                self.assertEqual(evidence.says(x, y), says(schema, clues, x, y, branching=branching))
                sorter = evidence.sorter()
                self.assertIs(type(sorter), Sorter)
                check_answer(self, schema, clues, ("rule", sorter.rule), branching)
                self.assertEqual(sorter, Sorter(schema, sorter.rule))
            words[word] += 1
        self.assertGreater(min(words.values()), 50)

    def test_rows_are_refused_before_clues_that_nothing_explains(self):
        for evidence in (Evidence(SCHEMA), Evidence(SCHEMA, [("ahead", LOW, LOW)])):
            for thing in NO_ROWS:
                for pair in ((thing, LOW), (HIGH, thing), (thing, thing)):
                    self.assertRaises(NoRow, evidence.says, *pair)

    def test_a_sorter_does_not_change_with_the_evidence(self):
        evidence = Evidence(UP, [("ahead", (1, 1), (2, 1))])
        sorter = evidence.sorter()
        rule = sorter.rule
        evidence.see("ahead", (1, 1), (1, 2))
        self.assertEqual(sorter.rule, rule)
        self.assertIs(type(rule), list)
        self.assertIs(type(Evidence(UP, CROSSED[:1], branching=(1,)).sorter().rule), tuple)

    def test_in(self):
        evidence = Evidence(SCHEMA, [CLUE, ("alike", LOW, LOW)])
        for clue, expected in ((CLUE, True), (("ahead", (1, 2, 3), (4, None, 6)), True), (("alike", LOW, LOW), True),
                               (("not behind", LOW, HIGH), False), (("ahead", HIGH, LOW), False)):
            self.assertIs(clue in evidence, expected)
            self.assertIs(clue not in evidence, not expected)
        # Python takes True for 1, so this one would be found if it were not asked whether it is a clue.
        self.assertIs(("ahead", (True, 2, 3), HIGH) in evidence, False)
        for thing in NO_CLUE + OTHERS + [0, 1, [CLUE], (CLUE,)]:
            self.assertIs(thing in evidence, False, thing)
            self.assertIs(thing in Evidence(SCHEMA), False, thing)

    def test_it_cannot_be_iterated_over(self):
        for evidence in (Evidence(UP), Evidence(BOTH_WAYS, CROSSED)):
            for call in (iter, list, tuple, sorted, set, enumerate):
                self.assertRaises(TypeError, call, evidence)
            with self.assertRaises(TypeError):
                for _ in evidence:
                    self.fail("it was iterated over")
            with self.assertRaises(TypeError):
                _, _ = evidence
            with self.assertRaises(TypeError):
                print(*evidence)


class Equal(unittest.TestCase):
    def check(self, one, other, expected):
        """Both are equal or not, both ways, in True or False."""
        for left, right in ((one, other), (other, one)):
            self.assertIs(left == right, expected)
            self.assertIs(left != right, not expected)

    def test_equal(self):
        for branching in ((), (0,), (1, 0)):
            one = Evidence(BOTH_WAYS, CROSSED, branching=branching)
            self.check(one, Evidence(list(BOTH_WAYS), tuple(CROSSED), branching=branching), True)
            self.check(one, Evidence(BOTH_WAYS, CROSSED, branching=branching[::-1]), True)
            self.check(one, one, True)
        for branching in itertools.permutations((2, 0, 1)):
            self.check(Evidence(SCHEMA, branching=branching), Evidence(SCHEMA, branching=(0, 1, 2)), True)

    def test_whatever_has_been_changed_before(self):
        one, other = Evidence(BOTH_WAYS, CROSSED), Evidence(BOTH_WAYS)
        for clue in CROSSED:
            other.see(*clue)
        self.check(one, other, True)
        other.chain()
        self.check(one, other, True)
        other.drop(0)
        self.check(one, other, False)
        other.back()
        self.check(one, other, True)

    def test_not_equal(self):
        one = Evidence(BOTH_WAYS, CROSSED, branching=(0,))
        for other in (Evidence(BOTH_WAYS, CROSSED), Evidence(BOTH_WAYS, CROSSED, branching=(1,)),
                      Evidence(BOTH_WAYS, CROSSED, branching=(1, 0)),
                      Evidence(BOTH_WAYS, CROSSED[::-1], branching=(0,)),
                      Evidence(BOTH_WAYS, CROSSED[:1], branching=(0,)),
                      Evidence([ORDERS] * 2, CROSSED, branching=(0,)),
                      Evidence(BOTH_WAYS, CROSSED + CROSSED[:1], branching=(0,)),
                      Evidence(BOTH_WAYS[:1] + [("down first", "up first")], CROSSED, branching=(0,))):
            self.check(one, other, False)
        self.check(Evidence(UP), Evidence(UP * 2), False)

    def test_other_things(self):
        for thing in OTHERS + [Sorter(UP, [])]:
            self.check(Evidence(UP), thing, False)
            self.check(Evidence(BOTH_WAYS, CROSSED), thing, False)


class Together(unittest.TestCase):
    FIRST, SECOND, THIRD = CROSSED[0], CROSSED[1], ("alike", (4, 4), (4, 5))

    def test_and(self):
        one = Evidence(BOTH_WAYS, [self.FIRST, self.SECOND, self.FIRST], branching=(0,))
        other = Evidence(BOTH_WAYS, [self.THIRD, self.SECOND, self.THIRD, self.FIRST], branching=(0,))
        both = one & other
        self.assertIs(type(both), Evidence)
        self.assertEqual(both.clues(), [self.FIRST, self.SECOND, self.FIRST, self.THIRD])
        self.assertEqual((other & one).clues(), [self.THIRD, self.SECOND, self.THIRD, self.FIRST])
        self.assertEqual(both, Evidence(BOTH_WAYS, both.clues(), branching=(0,)))
        self.assertIs(both.back(), False)
        self.assertEqual((len(one), len(other)), (3, 4))
        self.assertEqual([both.find()[0], one.find()[0]], ["rule", "rule"])
        self.assertEqual((one & Evidence(BOTH_WAYS, [("ahead", (4, 4), (4, 4))], branching=(0,))).find(), ("knot", [3]))

    def test_with_itself_and_with_none(self):
        one = Evidence(UP, [self.FIRST, self.FIRST])
        for other in (one, Evidence(UP), Evidence(UP, [self.FIRST])):
            got = one & other
            self.assertEqual((got, got.back()), (one, False))
            self.assertIsNot(got, one)
        self.assertEqual((Evidence(UP) & one).clues(), [self.FIRST])

    def test_they_do_not_affect_each_other(self):
        one, other = Evidence(UP, [self.FIRST]), Evidence(UP, [self.SECOND])
        both = one & other
        both.see(*self.THIRD)
        one.drop(0)
        other[0] = self.THIRD
        self.assertEqual([part.clues() for part in (one, other, both)],
                         [[], [self.THIRD], [self.FIRST, self.SECOND, self.THIRD]])
        one &= both
        self.assertEqual(both.clues(), one.clues())
        both.back()
        one.back()
        self.assertEqual([part.clues() for part in (one, other, both)], [[], [self.THIRD], [self.FIRST, self.SECOND]])

    def test_in_place(self):
        one = Evidence(BOTH_WAYS, [self.FIRST, self.SECOND, self.FIRST], branching=(1, 0))
        same = one
        other = Evidence(BOTH_WAYS, [self.THIRD, self.SECOND, self.THIRD], branching=(0, 1))
        one &= other
        self.assertIs(one, same)
        self.assertEqual(one.clues(), [self.FIRST, self.SECOND, self.FIRST, self.THIRD])
        self.assertEqual(len(other), 3)
        one &= one
        self.assertEqual(len(one), 4)
        self.assertEqual([one.back(), len(one), one.back(), len(one), one.back()], [True, 4, True, 3, False])

    def test_less_or_equal(self):
        stronger = Evidence(UP, [("ahead", (1, 2), (2, 1))])
        weaker = Evidence(UP, [("not behind", (1, 9), (2, 0)), ("ahead", (5, 9), (7, 0))])
        none = Evidence(UP, [("ahead", (1, 1), (1, 1))])
        for one, other, expected in ((stronger, weaker, True), (weaker, stronger, True), (stronger, Evidence(UP), True),
                                     (Evidence(UP), stronger, False), (none, stronger, True), (stronger, none, False),
                                     (none, none, True), (Evidence(UP), Evidence(UP), True),
                                     (Evidence(UP), none, False), (none, Evidence(UP), True),
                                     (stronger, stronger & weaker, True)):
            self.assertIs(one <= other, expected)
            self.assertIs(other >= one, expected)

    def test_less_or_equal_with_branching(self):
        for branching, expected in (((), True), ((1,), True), ((0,), False), ((1, 0), False)):
            one = Evidence(BOTH_WAYS, [("ahead", (1, 1), (1, 2))], branching=branching)
            other = Evidence(BOTH_WAYS, [("ahead", (2, 1), (2, 2))], branching=branching[::-1])
            self.assertIs(one <= other, expected)

    def test_less_or_equal_against_all_rules(self):
        chance = random.Random(92)
        many = {}
        for _ in range(300):
            schema = chance_schema(chance, 3)
            rule = chance.choice([chance_flat(chance, schema), chance_tree(chance, schema, [None, 0, 1])])
            branching = chance.choice([(), chance_columns(chance, schema), tuple(range(len(schema)))])
            lists = [told_clues(chance, schema, rule, chance.randint(0, 4), (None, 0, 1)) for _ in range(2)]
            one, other = [Evidence(schema, clues, branching=branching) for clues in lists]
            expected = all(implied(schema, lists[0], clue, branching=branching)[0] == "implied" for clue in lists[1])
            self.assertIs(one <= other, expected)
            if branching == ():
                kept = [explains(flat, lists[1]) for flat in flat_rules(schema) if explains(flat, lists[0])]
                self.assertIs(one <= other, all(kept))
            elif one <= other and has_rule(schema, lists[0], branching):
                self.assertTrue(explains(one.sorter().rule, lists[1]))
            many[expected, branching == ()] = many.get((expected, branching == ()), 0) + 1
        self.assertEqual(len(many), 4)
        self.assertGreater(min(many.values()), 15)

    def test_unlike(self):
        one = Evidence(BOTH_WAYS, CROSSED, branching=(0,))
        others = OTHERS + [
            Sorter(BOTH_WAYS, []), Evidence(BOTH_WAYS), Evidence(BOTH_WAYS, CROSSED, branching=(1,)),
            Evidence(BOTH_WAYS, branching=(0, 1)), Evidence(UP, branching=(0,)),
            Evidence(BOTH_WAYS * 2, branching=(0,)), Evidence(BOTH_WAYS[::-1], branching=(0,))]
        same = one
        for other in others:
            with self.assertRaises(Unlike):
                one & other
            with self.assertRaises(Unlike):
                one &= other
            with self.assertRaises(Unlike):
                one <= other
            self.assertIs(one, same)
        self.assertEqual((one.clues(), one.back()), (CROSSED, False))
        self.assertRaises(Unlike, lambda: Evidence(UP) <= Evidence(UP, branching=(0,)))


if __name__ == "__main__":
    unittest.main()
