"""The whole program: what its parts say of the same clues agrees, and no part keeps or changes what it is handed."""

import copy
import itertools
import random
import unittest

from samples import (ORDERS, SCHEMA, all_rows, chance_flat, chance_schema, chance_tree, repeats_a_list, same_results,
                     share_a_list)
from search import chance_clues, chance_columns, chance_rows, fours, told_clues

from sortclues.clues import broken, is_clue, stance
from sortclues.conflicts import implied, lean, least_conflict
from sortclues.evidence import Evidence
from sortclues.finding import find, groups, is_knot
from sortclues.listing import all_rules, how_many, question, teach
from sortclues.rules import compare, is_flat, is_tree, parting, plain, tree_of
from sortclues.saying import is_bar, must_branch, needed, says, usable
from sortclues.schemas import all_steps, is_row, is_schema
from sortclues.sorter import Sorter
from sortclues.texts import (clue_text, clues_text, flat_text, read_clue, read_clues, read_flat, read_tree, tree_text)

# Each function with its arguments by their names; the last ones are by name only.
CALLS = [
    (is_schema, {"thing": SCHEMA}), (is_row, {"schema": SCHEMA, "thing": (1, 2, 3)}), (all_steps, {"schema": SCHEMA}),
    (is_flat, {"schema": SCHEMA, "thing": []}), (is_tree, {"schema": SCHEMA, "thing": None}),
    (compare, {"schema": SCHEMA, "rule": [(0, "up last")], "x": (1, 2, 3), "y": (0, 2, 3)}),
    (tree_of, {"schema": SCHEMA, "flat": [(0, "up last")]}),
    (plain, {"schema": SCHEMA, "tree": (0, "up last", [(1, None)], None)}),
    (parting, {"schema": SCHEMA, "one": [(0, "up last")], "other": None}),
    (is_clue, {"schema": SCHEMA, "thing": ("alike", (1, 2, 3), (1, 2, 4))}),
    (broken, {"schema": SCHEMA, "rule": None, "clues": [("ahead", (1, 2, 3), (1, 2, 4))]}),
    (stance, {"schema": SCHEMA, "step": (2, "up last"), "clue": ("ahead", (1, 2, 3), (1, 2, 4))}),
    (all_rules, {"schema": SCHEMA[:1], "clues": []}), (how_many, {"schema": SCHEMA, "clues": []}),
    (question, {"schema": SCHEMA, "clues": []}), (teach, {"schema": SCHEMA, "flat": [(2, "up last"), (0, "up last")]}),
    (must_branch, {"schema": SCHEMA, "clues": []}), (flat_text, {"flat": [(0, "up last")]}),
    (tree_text, {"tree": (0, "up last", [(None, None)], None)}), (clue_text, {"clue": ("ahead", (1, 2), (None, 3))}),
    (clues_text, {"clues": [("ahead", (1, 2), (None, 3))] * 2}), (read_flat, {"schema": SCHEMA, "text": "0 up last"}),
    (read_tree, {"schema": SCHEMA, "text": "alike"}), (read_clue, {"schema": SCHEMA, "text": "1 2 3 alike 0 0 0"}),
    (read_clues, {"schema": SCHEMA, "text": "1 2 3 alike 0 0 0"})]
NAMED = [
    (find, {"schema": SCHEMA, "clues": []}, {"branching": (1,), "without": (0,)}),
    (is_knot, {"schema": SCHEMA, "clues": [], "numbers": []}, {"branching": (1,), "without": (0,)}),
    (groups, {"schema": SCHEMA, "clues": []}, {"branching": (1,), "without": (0,)}),
    (says, {"schema": SCHEMA, "clues": [], "x": (1, 2, 3), "y": (3, 2, 1)}, {"branching": (2, 0)}),
    (needed, {"schema": SCHEMA, "clues": [("ahead", (1, 2, 3), (1, 2, 4))]}, {"branching": (2, 0)}),
    (usable, {"schema": SCHEMA, "clues": [], "step": (0, "up last")}, {"before": (2, 0)}),
    (is_bar, {"schema": SCHEMA, "clues": [], "step": (0, "up last"), "numbers": []}, {"before": (2, 0)}),
    (implied, {"schema": SCHEMA, "clues": [], "clue": ("ahead", (1, 2, 3), (1, 2, 4))}, {"branching": (2, 0)}),
    (least_conflict, {"schema": SCHEMA, "clues": [("ahead", (1, 2, 3), (1, 2, 3))]}, {"branching": (2, 0)}),
    (lean, {"schema": SCHEMA, "clues": []}, {"branching": (2, 0)})]


def result(function, *arguments, **named):
    """What a function returns; of a generator all that it yields."""
    got = function(*arguments, **named)
    return list(got) if function is all_rules else got


class Names(unittest.TestCase):
    def test_arguments_by_position_and_by_name_in_another_order(self):
        for function, given, *rest in [(*call, {}) for call in CALLS] + NAMED:
            named = rest[0]
            expected = result(function, *given.values(), **named)
            together = {**given, **named}
            self.assertEqual(result(function, **together), expected, function)
            self.assertEqual(result(function, **dict(reversed(together.items()))), expected, function)

    def test_no_argument_is_changed_or_returned_and_the_answer_stays(self):
        for function, given, *rest in [(*call, {}) for call in CALLS] + NAMED:
            arguments = copy.deepcopy({**given, **rest[0]})
            before = copy.deepcopy(arguments)
            first = result(function, **arguments)
            kept = copy.deepcopy(first)
            self.assertEqual(arguments, before)
            self.assertFalse(repeats_a_list(first), function)
            self.assertFalse(share_a_list(first, arguments), function)
            for value in arguments.values():
                if isinstance(value, list):
                    value.clear()
            self.assertEqual(first, kept, function)
            if isinstance(first, list):
                first.append("changed")
            self.assertEqual(result(function, **before), kept, function)


class Agreement(unittest.TestCase):
    def cases(self, seed, many):
        """Schemas with clues, columns for branching, and what find returns."""
        chance = random.Random(seed)
        for _ in range(many):
            schema = chance_schema(chance, 3)
            rule = chance.choice([chance_flat(chance, schema), chance_tree(chance, schema, [None, 0, 1])])
            clues = told_clues(chance, schema, rule, chance.randint(0, 8))
            clues += chance_clues(chance, schema, chance.choice([0, 0, 1]))
            branching = chance.choice([(), chance_columns(chance, schema), tuple(range(len(schema)))])
            yield chance, schema, clues, branching, find(schema, clues, branching=branching)

    def test_a_rule_that_find_tells(self):
        for chance, schema, clues, branching, (word, rule) in self.cases(121, 250):
            if word == "knot":
                continue
            self.assertEqual(broken(schema, rule, clues), [])
            columns = [column for column, _ in rule] if branching == () else [four[0] for four in fours(rule)]
            for column, numbers in needed(schema, clues, branching=branching):
                self.assertIn(column, columns)
                self.assertTrue(is_knot(schema, clues, numbers, branching=branching, without=(column,)))
            branched = [] if branching == () else [four[0] for four in fours(rule) if four[2] != []]
            self.assertLessEqual({column for column, _ in must_branch(schema, clues)}, set(branched))
            if branching == ():
                for at, step in enumerate(rule):
                    before = tuple(column for column in range(len(schema)) if column not in columns[:at])
                    self.assertEqual(usable(schema, clues, step, before=before)[0], "rule")
            sorter = Evidence(schema, clues, branching=branching).sorter()
            self.assertEqual(sorter, Sorter(schema, rule))
            for _ in range(5):
                x, y = chance_rows(chance, schema, [None, 0, 1])
                said = [answer[0] for answer in says(schema, clues, x, y, branching=branching)]
                self.assertEqual(said[sorter(x, y) + 1], "rule")
                told = [("ahead", x, y), ("alike", x, y), ("ahead", y, x)][sorter(x, y) + 1]
                word = implied(schema, clues, told, branching=branching)[0]
                self.assertEqual(word == "implied", said.count("knot") == 2)

    def test_what_is_implied_is_kept_by_what_is_found(self):
        for chance, schema, clues, branching, (word, rule) in self.cases(122, 250):
            for clue in chance_clues(chance, schema, 4):
                answer = implied(schema, clues, clue, branching=branching)
                if answer[0] == "rule":
                    self.assertEqual((word, broken(schema, answer[1], clues)), ("rule", []))
                    self.assertEqual(broken(schema, answer[1], [clue]), [0])
                elif word == "rule":
                    self.assertEqual(broken(schema, rule, [clue]), [])
                one = Evidence(schema, clues, branching=branching)
                other = Evidence(schema, [clue], branching=branching[::-1])
                self.assertIs(one <= other, answer[0] == "implied")
                together = clues if clue in clues else clues + [clue]
                self.assertEqual((one & other).find(), find(schema, together, branching=branching))

    def test_lean_clues_leave_the_same_rules(self):
        for _, schema, clues, branching, (word, _) in self.cases(123, 120):
            if word == "knot":
                numbers, _ = least_conflict(schema, clues, branching=branching)
                self.assertTrue(is_knot(schema, clues, numbers, branching=branching))
                continue
            chosen = [clues[number] for number in lean(schema, clues, branching=branching)]
            if branching == ():
                self.assertEqual(list(all_rules(schema, chosen)), list(all_rules(schema, clues)))
            one, other = [Evidence(schema, part, branching=branching) for part in (clues, chosen)]
            self.assertEqual([one <= other, other <= one], [True, True])

    def test_clues_that_teach_tells(self):
        chance = random.Random(124)
        for _ in range(60):
            schema = chance_schema(chance, 4)
            flat = chance_flat(chance, schema)
            clues = teach(schema, flat)
            self.assertEqual([find(schema, clues), how_many(schema, clues), question(schema, clues)],
                             [("rule", flat), 1, None])
            self.assertEqual(list(all_rules(schema, clues)), [flat])
            self.assertEqual(Evidence(schema, clues).sorter().rule, flat)
            self.assertEqual([column for column, _ in needed(schema, clues)], sorted(column for column, _ in flat))
            for x, y in (chance_rows(chance, schema, [None, 0, 1]) for _ in range(5)):
                words = [answer[0] for answer in says(schema, clues, x, y)]
                self.assertEqual(words[compare(schema, flat, x, y) + 1], "rule")
            self.assertEqual(read_clues(schema, clues_text(clues)), clues)

    def test_a_question_parts_its_two_rules(self):
        for _, schema, clues, branching, (word, _) in self.cases(125, 120):
            found = question(schema, clues)
            if found is None:
                self.assertLess(how_many(schema, clues), 2)
                continue
            x, y, one, other = found
            self.assertNotEqual(Sorter(schema, one), Sorter(schema, other))
            self.assertNotEqual(Sorter(schema, one)(x, y), Sorter(schema, other)(x, y))
            self.assertGreater([answer[0] for answer in says(schema, clues, x, y)].count("rule"), 1)

    def test_evidence_that_is_chained_from_arranged_rows(self):
        chance = random.Random(126)
        for _ in range(150):
            schema = chance_schema(chance, 4)
            rule = chance.choice([chance_flat(chance, schema), chance_tree(chance, schema, [None, 0, 1])])
            branching = () if isinstance(rule, list) else tuple(range(len(schema)))
            rows = [tuple(chance.choice([None, 0, 1]) for _ in schema) for _ in range(chance.choice([0, 1, 2, 8, 40]))]
            arranged = Sorter(schema, rule).arranged(rows)
            evidence = Evidence(schema, branching=branching)
            evidence.chain(*arranged)
            self.assertEqual(len(evidence), max(0, len(rows) - 1))
            self.assertIs(evidence.sorter().shown(arranged), True)
            self.assertIs(Sorter(schema, rule).shown(arranged), True)
            for pair in zip(arranged, arranged[1:]):
                if Sorter(schema, rule)(*pair) == -1:
                    evidence.see("ahead", *pair)
            self.assertEqual(broken(schema, rule, evidence.clues()), [])
            self.assertIs(evidence.sorter().shown(arranged), True)

    def test_sorters_and_parting(self):
        chance = random.Random(127)
        for _ in range(200):
            schema = chance_schema(chance, 2)
            one, other = [chance.choice([chance_flat(chance, schema), chance_tree(chance, schema, [None, 0])])
                          for _ in range(2)]
            is_same = Sorter(schema, one) == Sorter(schema, other)
            self.assertIs(is_same, parting(schema, one, other) is None)
            self.assertIs(is_same, same_results(one, other, all_rows(schema, [None, 0, 1, 2])))

    def test_what_is_returned_can_be_written_and_read(self):
        for _, schema, clues, branching, (word, rule) in self.cases(128, 150):
            self.assertEqual(read_clues(schema, clues_text(clues)), clues)
            if word == "rule" and branching == ():
                self.assertEqual(read_flat(schema, flat_text(rule)), rule)
                self.assertEqual(read_tree(schema, tree_text(tree_of(schema, rule))), tree_of(schema, rule))
            elif word == "rule":
                self.assertEqual(read_tree(schema, tree_text(rule)), rule)
                self.assertEqual(plain(schema, read_tree(schema, tree_text(rule))), rule)

    def test_two_sorters_and_two_evidences_do_not_affect_each_other(self):
        schema = [ORDERS] * 2
        sorters = [Sorter(schema, flat) for flat in ([], [(0, "up first")], [(0, "up first"), (1, "down last")])]
        evidences = [Evidence(schema, branching=columns) for columns in ((), (0,), (1, 0))]
        for one, other in itertools.combinations(evidences, 2):
            one.see("ahead", (1, 1), (2, 2))
            other.chain((1, 1), (2, 2), (3, 3))
            one.back()
        self.assertEqual([len(evidence) for evidence in evidences], [0, 2, 4])
        self.assertEqual([sorter((2, 1), (2, 2)) for sorter in sorters], [0, 0, 1])
        self.assertEqual([(-sorter).rule for sorter in sorters],
                         [[], [(0, "down last")], [(0, "down last"), (1, "up first")]])
        self.assertEqual([sorter((2, 1), (2, 2)) for sorter in sorters], [0, 0, 1])


if __name__ == "__main__":
    unittest.main()
