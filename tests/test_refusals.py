"""Points 4, 6, 9 to 18 and 21: which error each function raises, and which one first."""

import copy
import itertools
import unittest

from samples import NO_SCHEMAS, ODD, ORDERS, SCHEMA
from wrong import CLUE, HIGH, LOW, NO_CLUE, NO_CLUES, NO_COLUMNS, NO_NUMBERS, NO_ROWS, NO_STEPS

from sortclues import errors
from sortclues.clues import broken, is_clue, stance
from sortclues.conflicts import implied, lean, least_conflict
from sortclues.finding import find, groups, is_knot
from sortclues.listing import all_rules, how_many, question, teach
from sortclues.rules import is_flat, is_tree
from sortclues.saying import is_bar, must_branch, needed, says, usable
from sortclues.texts import read_clue, read_clues, read_flat, read_tree

LEAF = (1, "down last", [], None)
NO_FLAT = [thing for thing in ODD if thing != []] + [
    None, LEAF, (0, "up first"), [(0, "down last")], [LEAF], ((0, "up first"),), [[0, "up first"]], [(3, "up first")],
    [(0, "up first")] * 2, [(0, "up first"), (0, "up last")], [(0, "up first"), None], [(True, "down last")]]
NO_RULE = [thing for thing in NO_FLAT if thing not in (None, LEAF)] + [
    (1, "up first", [], None), (1, "down last", (), None), (1, "down last", [(1, LEAF)], None),
    (0, "up first", [(1, None), (1, None)], None), (0, "up first", [], []), [None]]

RIGHT = {"schema": SCHEMA, "clues": [CLUE, ("alike", HIGH, HIGH)], "rule": [(0, "up first")],
         "flat": [(2, "up last")], "step": (0, "up last"), "clue": CLUE, "x": LOW, "y": HIGH, "branching": (2, 0),
         "without": (1,), "before": (1,), "numbers": [0, 1], "thing": None, "text": ""}
WRONG = {"schema": ("NoSchema", NO_SCHEMAS), "clues": ("NoClues", NO_CLUES), "rule": ("NoRule", NO_RULE),
         "flat": ("NoRule", NO_FLAT), "step": ("NoStep", NO_STEPS), "clue": ("NoClue", NO_CLUE),
         "x": ("NoRow", NO_ROWS), "y": ("NoRow", NO_ROWS), "branching": ("NoColumns", NO_COLUMNS),
         "without": ("NoColumns", NO_COLUMNS), "before": ("NoColumns", NO_COLUMNS)}

# For each function its arguments, in the order in which they are refused, and those that it never refuses.
REFUSED = {
    is_clue: ("schema", "thing"), broken: ("schema", "rule", "clues"), stance: ("schema", "step", "clue"),
    find: ("schema", "clues", "branching", "without"), groups: ("schema", "clues", "branching", "without"),
    is_knot: ("schema", "clues", "branching", "without", "numbers"), how_many: ("schema", "clues"),
    question: ("schema", "clues"), teach: ("schema", "flat"), says: ("schema", "clues", "x", "y", "branching"),
    needed: ("schema", "clues", "branching"), must_branch: ("schema", "clues"),
    usable: ("schema", "clues", "step", "before"), is_bar: ("schema", "clues", "step", "before", "numbers"),
    implied: ("schema", "clues", "clue", "branching"), least_conflict: ("schema", "clues", "branching"),
    lean: ("schema", "clues", "branching"), read_flat: ("schema", "text"), read_tree: ("schema", "text"),
    read_clue: ("schema", "text"), read_clues: ("schema", "text")}
# Right arguments of these functions alone.
OWN = {least_conflict: {"clues": [CLUE, ("ahead", HIGH, HIGH)]}, read_tree: {"text": "alike"},
       read_clue: {"text": "1 2 3 ahead 4 empty 6"}}

# Right lists of clues that no rule explains, whatever it branches at.
UNEXPLAINED = [[("ahead", LOW, LOW)], [CLUE, ("ahead", HIGH, LOW)], [("alike", LOW, HIGH), CLUE]]


def walk(schema, clues):
    """All rules of all_rules, as a function that is called."""
    return list(all_rules(schema, clues))


REFUSED[walk] = ("schema", "clues")


class Refusals(unittest.TestCase):
    def raises(self, error, function, arguments):
        """The function raises just this error and leaves the arguments as they were."""
        before = repr(arguments)
        with self.assertRaises(getattr(errors, error)) as caught:
            function(**arguments)
        self.assertIs(type(caught.exception), getattr(errors, error))
        self.assertEqual(repr(arguments), before)

    def arguments(self, function, **wrong):
        """Right arguments for the function, but for those that are given."""
        right = {name: RIGHT[name] for name in REFUSED[function]}
        return copy.deepcopy({**right, **OWN.get(function, {}), **wrong})

    def test_right_arguments_are_taken_and_not_changed(self):
        for function in REFUSED:
            arguments = self.arguments(function)
            before = copy.deepcopy(arguments)
            function(**arguments)
            self.assertEqual(arguments, before)

    def test_each_wrong_argument(self):
        for function, names in REFUSED.items():
            for name in names:
                error, things = WRONG.get(name, ("", []))
                for thing in things:
                    self.raises(error, function, self.arguments(function, **{name: thing}))

    def test_of_two_wrong_arguments_the_first_one_counts(self):
        for function, names in REFUSED.items():
            for one, other in itertools.combinations([name for name in names if name in WRONG], 2):
                error, things = WRONG[one]
                for first, second in itertools.product(things[::7], WRONG[other][1][::7]):
                    self.raises(error, function, self.arguments(function, **{one: first, other: second}))

    def test_all_arguments_wrong_at_once(self):
        for function, names in REFUSED.items():
            for thing in (0, "", True, [None], (None,), [[]]):
                wrong = {name: thing for name in names}
                self.raises("NoSchema", function, self.arguments(function, **wrong))
                wrong["schema"] = RIGHT["schema"]
                if len(names) > 1 and names[1] in WRONG:
                    self.raises(WRONG[names[1]][0], function, self.arguments(function, **wrong))

    def test_no_schema_though_there_are_no_clues(self):
        for function, names in REFUSED.items():
            if "clues" in names:
                for schema in NO_SCHEMAS:
                    self.raises("NoSchema", function, self.arguments(function, schema=schema, clues=[]))

    def test_unexplained_behind_all_else(self):
        for function in (says, needed, must_branch, usable, lean):
            for clues in UNEXPLAINED:
                self.raises("Unexplained", function, self.arguments(function, clues=clues))
                for name in REFUSED[function]:
                    if name != "clues":
                        error, things = WRONG[name]
                        for thing in things[::5]:
                            self.raises(error, function, self.arguments(function, clues=clues, **{name: thing}))

    def test_explained_behind_all_else(self):
        for clues in ([], [CLUE], [("alike", LOW, HIGH)]):
            self.raises("Explained", least_conflict, self.arguments(least_conflict, clues=clues))
            for columns in NO_COLUMNS:
                self.raises("NoColumns", least_conflict, self.arguments(least_conflict, clues=clues, branching=columns))

    def test_the_others_take_clues_that_no_rule_explains(self):
        for function in (broken, find, is_knot, groups, how_many, question, is_bar, walk, implied, least_conflict):
            for clues in UNEXPLAINED:
                function(**self.arguments(function, clues=clues))

    def test_things_of_another_schema(self):
        wide = {"schema": [ORDERS] * 4}
        for function, names in REFUSED.items():
            if "clues" in names and "rule" not in names:
                self.raises("NoClues", function, self.arguments(function, **wide))
        self.raises("NoClues", broken, self.arguments(broken, **wide))
        self.raises("NoClue", stance, self.arguments(stance, **wide))
        self.raises("NoClue", implied, self.arguments(implied, clues=[], **wide))
        self.raises("NoRow", says, self.arguments(says, clues=[], branching=(3,), **wide))
        self.raises("NoStep", usable, self.arguments(usable, step=(0, "down first")))
        self.raises("NoRule", teach, self.arguments(teach, schema=SCHEMA[:2]))

    def test_columns_of_just_this_schema(self):
        for many, column in itertools.product(range(1, 7), range(8)):
            schema = [ORDERS] * many
            calls = [(find, {"branching": (column,)}), (find, {"without": (column,)}),
                     (groups, {"branching": (column,)}), (groups, {"without": (column,)}),
                     (is_knot, {"numbers": [], "branching": (column,)}),
                     (is_knot, {"numbers": [], "without": (column,)}),
                     (says, {"x": (0,) * many, "y": (1,) * many, "branching": (column,)}),
                     (needed, {"branching": (column,)}), (lean, {"branching": (column,)}),
                     (implied, {"clue": ("ahead", (0,) * many, (1,) * many), "branching": (column,)}),
                     (least_conflict, {"clues": [("ahead", (0,) * many, (0,) * many)], "branching": (column,)}),
                     (usable, {"step": (0, "up last"), "before": (column,)}),
                     (is_bar, {"step": (0, "up last"), "numbers": [], "before": (column,)})]
            for function, named in calls:
                arguments = {"schema": schema, "clues": [], **named}
                if column < many:
                    function(**arguments)
                else:
                    self.raises("NoColumns", function, arguments)

    def test_words_are_true_or_false(self):
        for thing in NO_CLUE + [CLUE]:
            self.assertIs(is_clue(SCHEMA, thing), thing == CLUE)
        for thing in NO_NUMBERS + [[0], [1], [0, 1]]:
            self.assertIn(is_knot(SCHEMA, [CLUE] * 3, thing), (True, False))
            self.assertIs(type(is_knot(SCHEMA, [CLUE] * 3, thing)), bool)
            self.assertIs(type(is_bar(SCHEMA, [CLUE] * 3, (0, "up last"), thing)), bool)

    def test_what_is_called_wrong_here_is_wrong(self):
        self.assertTrue(all(not is_flat(SCHEMA, thing) for thing in NO_FLAT))
        self.assertTrue(all(not is_flat(SCHEMA, thing) and not is_tree(SCHEMA, thing) for thing in NO_RULE))


if __name__ == "__main__":
    unittest.main()
