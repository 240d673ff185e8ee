"""Point 18: implied, least_conflict and lean."""

import copy
import inspect
import itertools
import random
import unittest

from samples import ORDERS, SCHEMA, chance_flat, chance_schema, chance_tree, repeats_a_list, share_a_list
from search import (WORDS, chance_clues, chance_columns, chance_rows, check_knot, check_rule, explains, flat_rules,
                    has_rule, told_clues)

from sortclues import conflicts
from sortclues.conflicts import implied, lean, least_conflict
from sortclues.errors import Explained, Unexplained
from sortclues.finding import find

UP = [("up first",), ("up first",)]
BOTH_WAYS = [("up first",), ("up first", "down first")]
CROSSED = [("ahead", (1, 1), (1, 2)), ("ahead", (2, 2), (2, 1))]
NEVER = [("ahead", (1, 1), (1, 1))]


def contraries(clue):
    """The contraries of a clue, in the order of point 18."""
    word, x, y = clue
    return {"ahead": [("alike", x, y), ("ahead", y, x)], "not behind": [("ahead", y, x)],
            "alike": [("ahead", x, y), ("ahead", y, x)]}[word]


class TheExample(unittest.TestCase):
    def test_point_18(self):
        clues = [("ahead", (1, 2), (2, 1))]
        got = [implied(UP, clues, ("not behind", (1, 9), (2, 0))), lean(UP, clues + clues)]
        self.assertEqual(got, [("implied", [[0, 1]]), [1]])


class Interface(unittest.TestCase):
    def test_names_and_arguments(self):
        listed = {"implied": "(schema, clues, clue, *, branching=())",
                  "least_conflict": "(schema, clues, *, branching=())", "lean": "(schema, clues, *, branching=())"}
        for name, arguments in listed.items():
            function = getattr(conflicts, name)
            self.assertEqual(str(inspect.signature(function)), arguments)
            self.assertEqual(function.__module__, "sortclues.conflicts")

    def test_arguments_by_name(self):
        self.assertEqual(implied(branching=(), clue=CROSSED[0], clues=CROSSED[:1], schema=UP),
                         ("implied", [[0, 1], [0, 1]]))
        self.assertEqual(least_conflict(branching=(1,), clues=NEVER, schema=UP)[0], [0])
        self.assertEqual(lean(branching=(0,), clues=CROSSED, schema=BOTH_WAYS), [0, 1])

    def test_branching_by_name_only(self):
        self.assertRaises(TypeError, implied, UP, [], CROSSED[0], ())
        self.assertRaises(TypeError, least_conflict, UP, NEVER, ())
        self.assertRaises(TypeError, lean, UP, [], ())


class Base(unittest.TestCase):
    def unchanged(self, function, schema, clues, *others, branching=()):
        """What the function returns; its arguments stay as they were and none is part of the result."""
        before = copy.deepcopy((schema, clues, others, branching))
        got = function(schema, clues, *others, branching=branching)
        self.assertEqual((schema, clues, others, branching), before)
        self.assertFalse(repeats_a_list(got))
        self.assertFalse(share_a_list(got, [schema, clues]))
        again = function(schema, clues, *others, branching=branching)
        self.assertEqual(again, got)
        self.assertFalse(share_a_list(again, got))
        return got

    def a_case(self, chance, values=(None, 0, 1)):
        """A schema, clues that are often explained, and columns for branching: none, some or all."""
        schema = chance_schema(chance, 3)
        rule = chance.choice([chance_flat(chance, schema), chance_tree(chance, schema, list(values))])
        clues = told_clues(chance, schema, rule, chance.randint(0, 7), values)
        branching = chance.choice([(), chance_columns(chance, schema), tuple(range(len(schema)))])
        return schema, clues, branching


class Implied(Base):
    def implied(self, schema, clues, clue, branching=()):
        """The word of the answer, which is checked."""
        got = self.unchanged(implied, schema, clues, clue, branching=branching)
        self.assertEqual((type(got), len(got)), (tuple, 2))
        word, found = got
        if word == "rule":
            check_rule(self, schema, clues, found, branching)
            self.assertFalse(explains(found, [clue]), (schema, clues, clue, found))
        else:
            self.assertEqual(word, "implied")
            self.assertEqual((type(found), len(found)), (list, len(contraries(clue))))
            for knot, contrary in zip(found, contraries(clue)):
                check_knot(self, schema, clues + [contrary], knot, branching)
        return word

    def test_no_clues(self):
        x, y = (1, 1), (1, 2)
        for branching in ((), (0,), (1, 0)):
            for word, expected in (("ahead", "rule"), ("not behind", "implied"), ("alike", "rule")):
                self.assertEqual(self.implied(UP, [], (word, x, y), branching), expected)
            for word, expected in (("ahead", "rule"), ("not behind", "implied"), ("alike", "implied")):
                self.assertEqual(self.implied(UP, [], (word, x, x), branching), expected)
            for word in WORDS:
                self.assertEqual(self.implied(BOTH_WAYS, [], (word, x, y), branching), "rule")

    def test_each_word(self):
        clues = [("ahead", (1, 2), (2, 1)), ("alike", (3, 1), (3, 2))]
        x, y = (5, 9), (7, 0)
        for branching in ((), (1,)):
            for told, expected in ((("ahead", x, y), "implied"), (("not behind", x, y), "implied"),
                                   (("alike", x, y), "rule"), (("ahead", y, x), "rule"), (("not behind", y, x), "rule"),
                                   (("alike", (7, 0), (7, 5)), "implied"), (("ahead", (7, 0), (7, 5)), "rule"),
                                   (("not behind", (7, 0), (7, 5)), "implied"), (("alike", x, x), "implied"),
                                   (("not behind", x, x), "implied"), (("ahead", x, x), "rule")):
                self.assertEqual(self.implied(UP, clues, told, branching), expected, told)

    def test_the_contraries_in_their_order(self):
        # "alike" contradicts the first clue; "ahead" the other way about is against the one order there is.
        clues = [("ahead", (1, 0), (2, 0)), ("ahead", (0, 1), (0, 2))]
        x, y = (1, 0), (2, 0)
        word, knots = implied(UP, clues, ("ahead", x, y))
        for knot, contrary in zip(knots, [("alike", x, y), ("ahead", y, x)]):
            check_knot(self, UP, clues + [contrary], knot)
        self.assertEqual((word, len(knots)), ("implied", 2))
        # Of rows that the schema can put in one order only, one contrary contradicts the clues, and one any clues.
        clues = [("alike", (1, 0), (2, 0))]
        self.assertEqual(implied(UP, clues, ("alike", (1, 0), (3, 0))), ("implied", [[0, 1], [0, 1]]))
        self.assertEqual(implied(UP, [], ("not behind", (1, 0), (3, 0))), ("implied", [[0]]))

    def test_contraries_whose_knots_are_different(self):
        schema = [("up first", "down first")]
        clues = [("alike", (1,), (1,)), ("ahead", (1,), (2,)), ("alike", (None,), (0,))]
        self.assertEqual(self.implied(schema, clues[:2], ("ahead", (3,), (4,))), "implied")
        self.assertEqual(self.implied(schema, clues, ("ahead", (3,), (4,))), "implied")
        schema = [("up first",), ("up first", "down first")]
        clues = [("ahead", (1, 1), (2, 1)), ("not behind", (5, 1), (5, 2))]
        self.assertEqual(self.implied(schema, clues, ("ahead", (1, 1), (2, 2))), "implied")
        self.assertEqual(self.implied(schema, clues[:1], ("ahead", (1, 1), (2, 2))), "rule")

    def test_clues_that_are_a_knot_imply_all(self):
        chance = random.Random(71)
        for clues, schema, branchings in ((NEVER, UP, [(), (0,), (1, 0)]), (CROSSED, BOTH_WAYS, [(), (1,)])):
            for branching in branchings:
                for _ in range(15):
                    clue = (chance.choice(WORDS), *chance_rows(chance, schema, [None, 0, 1]))
                    self.assertEqual(self.implied(schema, clues, clue, branching), "implied")
        self.assertEqual(self.implied(BOTH_WAYS, CROSSED, ("ahead", (1, 5), (1, 4)), (0,)), "rule")

    def test_branching_of_none_some_and_all_columns(self):
        clue = ("ahead", (3, 1), (3, 2))
        for branching, expected in (((), "implied"), ((1,), "implied"), ((0,), "rule"), ((1, 0), "rule")):
            self.assertEqual(self.implied(BOTH_WAYS, CROSSED[:1], clue, branching), expected)
            self.assertEqual(self.implied(BOTH_WAYS, CROSSED[:1], CROSSED[0], branching), "implied")

    def test_against_all_rules(self):
        chance = random.Random(72)
        many = {}
        for _ in range(600):
            schema, clues, branching = self.a_case(chance)
            clue = (chance.choice(WORDS), *chance_rows(chance, schema, [None, 0, 1]))
            if chance.random() < 0.3:
                clues = clues + [(chance.choice(WORDS), *clue[1:])]
            word = self.implied(schema, clues, clue, branching)
            if branching == ():
                kept = [explains(flat, [clue]) for flat in flat_rules(schema) if explains(flat, clues)]
                self.assertEqual(word == "implied", all(kept), (schema, clues, clue))
            against = [has_rule(schema, clues + [contrary], branching) for contrary in contraries(clue)]
            self.assertEqual(word == "implied", not any(against), (schema, clues, clue, branching))
            many[word, clue[0], branching == ()] = many.get((word, clue[0], branching == ()), 0) + 1
        self.assertEqual(len(many), 12, many)
        self.assertGreater(min(many.values()), 8, many)

    def test_a_later_change_of_an_argument_has_no_effect(self):
        schema, clues = copy.deepcopy(BOTH_WAYS), list(CROSSED)
        got = [implied(schema, clues, CROSSED[0]), implied(schema, clues[:1], ("alike", (1, 1), (2, 2))),
               least_conflict(schema, clues), lean(schema, clues, branching=(0,))]
        before = copy.deepcopy(got)
        schema.clear()
        clues.clear()
        self.assertEqual(got, before)


def two_for_each_column(columns):
    """Clues of a schema with all orders of which none can be left out: two for each column, and one more."""
    clues = []
    for column in range(columns):
        full, empty = [0] * columns, [0] * columns
        empty[column] = None
        clues += [("not behind", tuple(full), tuple(empty)), ("not behind", tuple(empty), tuple(full))]
    return clues + [("ahead", (0,) * columns, (1,) * columns)]


class LeastConflict(Base):
    def least(self, schema, clues, branching=()):
        """The numbers of the answer, which is checked."""
        got = self.unchanged(least_conflict, schema, clues, branching=branching)
        self.assertEqual((type(got), len(got)), (tuple, 2))
        numbers, rules = got
        self.assertEqual((type(numbers), type(rules)), (list, list))
        check_knot(self, schema, clues, numbers, branching)
        self.assertLessEqual(len(numbers), 2 * len(schema) + 1)
        chosen = [clues[number] for number in numbers]
        self.assertEqual(find(schema, chosen, branching=branching)[0], "knot")
        self.assertEqual(len(rules), len(numbers))
        for at, rule in enumerate(rules):
            check_rule(self, schema, chosen[:at] + chosen[at + 1:], rule, branching)
            self.assertFalse(explains(rule, chosen))
        return numbers

    def test_one_clue(self):
        for branching in ((), (1,), (1, 0)):
            self.assertEqual(self.least(UP, NEVER, branching), [0])
            self.assertEqual(self.least(UP, [("ahead", (2, 1), (1, 1))], branching), [0])
            self.assertEqual(self.least(UP, CROSSED[:1] + NEVER + CROSSED[:1], branching), [1])
        self.assertEqual(least_conflict(UP, NEVER), ([0], [[]]))
        self.assertEqual(least_conflict(UP, NEVER, branching=(0,)), ([0], [None]))

    def test_clues_that_are_not_needed_are_left_out(self):
        idle = [("alike", (3, 3), (3, 3)), ("not behind", (1, 1), (2, 2)), ("ahead", (0, 0), (5, 0))]
        for branching in ((), (1,)):
            self.assertEqual(len(self.least(BOTH_WAYS, CROSSED + idle, branching)), 2)
            self.assertEqual(self.least(BOTH_WAYS, idle + CROSSED, branching), [3, 4])
            self.assertEqual(self.least(BOTH_WAYS, [CROSSED[0], *idle, CROSSED[1]], branching), [0, 4])
            self.assertEqual(len(self.least(BOTH_WAYS, CROSSED * 20, branching)), 2)

    def test_as_many_clues_as_can_be_needed(self):
        for columns in range(1, 7):
            schema, clues = [ORDERS] * columns, two_for_each_column(columns)
            every = tuple(range(columns))
            for branching in ((), every[1:], every):
                self.assertEqual(self.least(schema, clues, branching), list(range(2 * columns + 1)))
        chance = random.Random(73)
        schema, clues = [ORDERS] * 6, two_for_each_column(6)
        for _ in range(10):
            more = clues + chance.choices(clues, k=27)
            chance.shuffle(more)
            self.assertEqual(len(more), 40)
            self.assertEqual(len(self.least(schema, more, chance_columns(chance, schema))), 13)

    def test_forty_clues_of_six_columns(self):
        chance = random.Random(74)
        sizes = set()
        for _ in range(60):
            schema = chance.choice([[ORDERS] * 6, chance_schema(chance, 6)])
            clues = chance_clues(chance, schema, 40)
            branching = chance.choice([(), chance_columns(chance, schema), tuple(range(len(schema)))])
            if find(schema, clues, branching=branching)[0] == "knot":
                sizes.add(len(self.least(schema, clues, branching)))
        self.assertGreater(len(sizes), 3)

    def test_small_cases_against_all_rules(self):
        chance = random.Random(75)
        many = {True: 0, False: 0}
        for _ in range(300):
            schema = chance_schema(chance, 3)
            clues = chance_clues(chance, schema, chance.randint(1, 7))
            branching = chance_columns(chance, schema)
            if has_rule(schema, clues, branching):
                self.assertRaises(Explained, least_conflict, schema, clues, branching=branching)
                continue
            numbers = self.least(schema, clues, branching)
            chosen = [clues[number] for number in numbers]
            self.assertFalse(has_rule(schema, chosen, branching))
            for at in range(len(chosen)):
                self.assertTrue(has_rule(schema, chosen[:at] + chosen[at + 1:], branching))
            many[branching == ()] += 1
        self.assertGreater(min(many.values()), 30)

    def test_explained(self):
        for branching in ((), (1,), (0, 1)):
            self.assertRaises(Explained, least_conflict, UP, [], branching=branching)
            self.assertRaises(Explained, least_conflict, UP, CROSSED[:1], branching=branching)
        self.assertRaises(Explained, least_conflict, BOTH_WAYS, CROSSED, branching=(0,))
        self.assertEqual(self.least(BOTH_WAYS, CROSSED), [0, 1])


class Lean(Base):
    def lean(self, schema, clues, branching=()):
        """What lean returns, each clue that it took out being implied by those that were left then."""
        got = self.unchanged(lean, schema, clues, branching=branching)
        self.assertIs(type(got), list)
        self.assertTrue({type(number) for number in got} <= {int})
        left = list(range(len(clues)))
        for number in range(len(clues)):
            others = [other for other in left if other != number]
            word = implied(schema, [clues[other] for other in others], clues[number], branching=branching)[0]
            self.assertEqual(word == "implied", number not in got, (schema, clues, number))
            left = left if word == "rule" else others
        self.assertEqual(got, left)
        return got

    def test_no_clues(self):
        for branching in ((), (0,), (1, 0)):
            self.assertEqual(self.lean(UP, [], branching), [])

    def test_clues_that_always_hold_are_taken_out(self):
        idle = [("alike", (3, 3), (3, 3)), ("not behind", (1, 1), (2, 2)), ("not behind", (1, 1), (1, 1))]
        for branching in ((), (1,)):
            self.assertEqual(self.lean(UP, idle, branching), [])
            self.assertEqual(self.lean(UP, idle + CROSSED[:1] + idle, branching), [3])

    def test_of_equal_clues_the_last_one_is_left(self):
        for branching in ((), (0,)):
            self.assertEqual(self.lean(BOTH_WAYS, CROSSED[:1] * 3, branching), [2])
        self.assertEqual(self.lean(BOTH_WAYS, CROSSED * 2, (0,)), [2, 3])
        self.assertEqual(self.lean(BOTH_WAYS, CROSSED + CROSSED[::-1], (0,)), [2, 3])
        self.assertEqual(len(self.lean(BOTH_WAYS, CROSSED * 20, (0, 1))), 2)

    def test_clues_that_follow_from_others(self):
        clues = [("ahead", (1, 2), (2, 1)), ("ahead", (1, 9), (2, 0)), ("not behind", (1, 9), (5, 0))]
        self.assertEqual(self.lean(UP, clues), [1])
        self.assertEqual(self.lean(UP, clues[::-1]), [2])
        self.assertEqual(self.lean(UP, [clues[2], clues[0], clues[1]]), [2])
        # The weaker clue does not imply the stronger one, but it is implied.
        stronger, weaker = ("ahead", (1, 1), (2, 1)), ("not behind", (1, 2), (2, 1))
        self.assertEqual(self.lean(UP, [stronger, weaker]), [0, 1])
        both = [("ahead", (1, 2), (2, 1)), ("not behind", (1, 2), (2, 1))]
        self.assertEqual(self.lean(UP, both), [0])
        self.assertEqual(self.lean(UP, both[::-1]), [1])

    def test_what_is_left_depends_on_what_was_taken_out_before(self):
        # Each of these implies the other one; only the first one is taken out.
        schema = [("up first", "down first")]
        clues = [("not behind", (1,), (2,)), ("not behind", (3,), (4,))]
        self.assertEqual(self.lean(schema, clues), [1])
        self.assertEqual(self.lean(schema, clues[::-1]), [1])
        self.assertEqual(self.lean(schema, clues + clues), [3])

    def test_branching(self):
        same = [("ahead", (1, 1), (1, 2)), ("ahead", (2, 1), (2, 2))]
        for branching, expected in (((), [1]), ((1,), [1]), ((0,), [0, 1]), ((1, 0), [0, 1])):
            self.assertEqual(self.lean(BOTH_WAYS, same, branching), expected)

    def test_made_by_chance(self):
        chance = random.Random(76)
        sizes = {}
        for _ in range(200):
            schema, clues, branching = self.a_case(chance)
            if has_rule(schema, clues, branching):
                got = self.lean(schema, clues, branching)
                chosen = [clues[number] for number in got]
                for number, clue in enumerate(clues):
                    self.assertEqual(implied(schema, chosen, clue, branching=branching)[0], "implied")
                self.assertEqual(self.lean(schema, chosen, branching), list(range(len(chosen))))
                if branching == ():
                    for flat in flat_rules(schema):
                        self.assertEqual(explains(flat, chosen), explains(flat, clues))
                sizes[len(got) == len(clues)] = sizes.get(len(got) == len(clues), 0) + 1
            else:
                self.assertRaises(Unexplained, lean, schema, clues, branching=branching)
        self.assertGreater(min(sizes.values()), 15)
        self.assertEqual(len(sizes), 2)

    def test_in_another_order(self):
        chance = random.Random(77)
        clues = told_clues(chance, SCHEMA, [(1, "down last"), (0, "up first")], 5)
        for mixed in itertools.permutations(clues):
            got = lean(SCHEMA, list(mixed))
            self.assertEqual(implied(SCHEMA, [mixed[number] for number in got], clues[0])[0], "implied")

    def test_unexplained(self):
        for branching in ((), (1,)):
            self.assertRaises(Unexplained, lean, BOTH_WAYS, CROSSED, branching=branching)
            self.assertRaises(Unexplained, lean, UP, NEVER, branching=branching)
        self.assertEqual(self.lean(BOTH_WAYS, CROSSED, (0,)), [0, 1])


if __name__ == "__main__":
    unittest.main()
