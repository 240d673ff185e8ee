"""Points 7 and 9: flat rules, trees, and what compare returns."""

import copy
import inspect
import itertools
import random
import unittest

from samples import (NO_SCHEMAS, ODD, ORDERS, SCHEMA, all_rows, chance_flat, chance_schema, chance_tree, opinion,
                     wide_tree)

from sortclues import rules
from sortclues.errors import NoRow, NoRule, NoSchema
from sortclues.rules import compare, is_flat, is_tree, parting, plain, tree_of

LEAF = (1, "down last", [], None)
NO_ROWS = [None, True, 0, "123", [1, 2, 3], (1, 2), (1, 2, 3, 4), (1, 2, True), (False, 2, 3), (1, "2", 3),
           (1, (2,), 3), (1, [2], 3), ((1, 2, 3),), ()]
NEITHER = [thing for thing in ODD if thing != []] + [
    [(0, "down last")], [LEAF], (0, "up first"), (0, "up first", []), (0, "up first", [], None, None), [0, "up first"],
    [[0, "up first"]], ((0, "up first"),), [(0, "up first"), (0, "up last")], [(0, "up first"), None]]


class TheExample(unittest.TestCase):
    def test_point_9(self):
        schema = [("up first", "up last"), ("down last",)]
        flat = [(1, "down last"), (0, "up first")]
        tree = (0, "up first", [(7, (1, "down last", [], None))], None)
        got = [compare(schema, flat, (1, 5), (2, 5)), compare(schema, flat, (1, None), (9, 0)),
               compare(schema, tree, (7, 1), (7, 2)), compare(schema, tree, (8, 1), (8, 2))]
        self.assertEqual(got, [-1, 1, 1, 0])
        loose = (0, "up first", [(7, None), (3, (1, "down last", [], None))], None)
        got = [tree_of(schema, flat), parting(schema, flat, tree_of(schema, flat)), plain(schema, loose)]
        expected = [(1, "down last", [], (0, "up first", [], None)), None,
                    (0, "up first", [(3, (1, "down last", [], None))], None)]
        self.assertEqual(got, expected)


class Interface(unittest.TestCase):
    def test_names_and_arguments(self):
        listed = {"is_flat": ["schema", "thing"], "is_tree": ["schema", "thing"],
                  "compare": ["schema", "rule", "x", "y"], "tree_of": ["schema", "flat"],
                  "plain": ["schema", "tree"], "parting": ["schema", "one", "other"]}
        for name, arguments in listed.items():
            function = getattr(rules, name)
            self.assertEqual(list(inspect.signature(function).parameters), arguments)
            self.assertEqual(function.__module__, "sortclues.rules")

    def test_arguments_by_name(self):
        self.assertIs(is_flat(thing=[], schema=SCHEMA), True)
        self.assertIs(is_tree(thing=None, schema=SCHEMA), True)
        self.assertEqual(compare(y=(2, 0, 0), x=(1, 0, 0), rule=[(0, "up first")], schema=SCHEMA), -1)
        self.assertEqual(tree_of(flat=[(1, "down last")], schema=SCHEMA), LEAF)
        self.assertEqual(plain(tree=LEAF, schema=SCHEMA), LEAF)
        self.assertIsNone(parting(other=LEAF, one=LEAF, schema=SCHEMA))


class FlatRules(unittest.TestCase):
    def test_flat_rules(self):
        for flat in ([], [(0, "up last")], [(2, "down first"), (0, "up first")],
                     [(2, "up last"), (1, "down last"), (0, "up last")]):
            self.assertIs(is_flat(SCHEMA, flat), True, flat)

    def test_a_column_only_once(self):
        for one, two in itertools.product(ORDERS, repeat=2):
            self.assertIs(is_flat(SCHEMA, [(2, one), (2, two)]), False)
            self.assertIs(is_flat(SCHEMA, [(2, one), (1, "down last"), (2, two)]), False)

    def test_only_orders_that_this_column_allows(self):
        for column, order in itertools.product(range(-2, 5), ORDERS + ("up", "first", "")):
            allowed = 0 <= column < 3 and order in SCHEMA[column]
            self.assertIs(is_flat(SCHEMA, [(column, order)]), allowed, (column, order))
            self.assertIs(is_flat(SCHEMA[:2] + [ORDERS] * 4, [(5, "up last"), (column, order)]),
                          0 <= column < 5 and order in (SCHEMA[:2] + [ORDERS] * 3)[column])

    def test_what_is_no_flat_rule(self):
        for thing in NEITHER + [None, LEAF, ([],), [[]], [()], [(True, "down last")], [(False, "up first")],
                                [(0, "up first", [])], [("0", "up first")], [(0, None)], [(0, ["up first"])],
                                [(None, "up first")], [([0], "up first")], [0, "up first"]]:
            self.assertIs(is_flat(SCHEMA, thing), False, thing)

    def test_long_lists(self):
        self.assertIs(is_flat(SCHEMA, [(2, "up first")] * 2000), False)
        self.assertIs(is_flat([ORDERS] * 6, [(column, "up last") for column in range(6)]), True)


class Trees(unittest.TestCase):
    def test_trees(self):
        for tree in (None, LEAF, (0, "up last", [], LEAF), (0, "up last", [(5, LEAF), (None, None)], LEAF),
                     (0, "up first", [(-3, LEAF), (10 ** 30, LEAF)], (2, "up last", [(0, LEAF)], LEAF))):
            self.assertIs(is_tree(SCHEMA, tree), True, tree)

    def test_what_is_no_tree(self):
        for thing in NEITHER + [[], [None], (None,), (None,) * 4, list(LEAF), [(0, "up first")]]:
            self.assertIs(is_tree(SCHEMA, thing), False, thing)

    def test_none_and_the_empty_list(self):
        self.assertEqual([is_tree(SCHEMA, None), is_flat(SCHEMA, None)], [True, False])
        self.assertEqual([is_tree(SCHEMA, []), is_flat(SCHEMA, [])], [False, True])

    def test_exactly_four(self):
        whole = (0, "up first", [], None, None, None)
        for many in range(7):
            self.assertIs(is_tree(SCHEMA, whole[:many]), many == 4)
            self.assertIs(is_tree(SCHEMA, (1, "down last", [(1, whole[:many])], None)), many == 4)

    def test_branches_are_a_list_of_tuples_of_two(self):
        for branches in (None, (), ((1, None),), "", 0, {}, [None], [1], [[1, None]], [(1,)], [()], [(1, None, None)],
                         [(1, None), None], [(1, None), [2, None]], [[]], [(None,)], True):
            self.assertIs(is_tree(SCHEMA, (0, "up first", branches, None)), False, branches)

    def test_the_values_of_branches_are_different_values(self):
        for values in ([1, 1], [None, None], [1, 2, 1], [None, 3, None], [10 ** 30, -1, 10 ** 30], [True], [False],
                       ["1"], [""], [()], [[]], [(1,)], [1, True], [0, False]):
            tree = (0, "up first", [(value, None) for value in values], None)
            self.assertIs(is_tree(SCHEMA, tree), False, values)
        self.assertIs(is_tree(SCHEMA, (0, "up first", [(v, None) for v in (0, None, -1, 1, -2)], None)), True)

    def test_a_column_once_on_any_way_down(self):
        top, inner = (2, "up first", [], None), (0, "up first", [], (2, "down last", [], None))
        for below in (top, inner, (1, "down last", [(4, top)], None), (0, "up first", [(4, LEAF), (5, top)], None)):
            self.assertIs(is_tree(SCHEMA, below), True)
            self.assertIs(is_tree(SCHEMA, (2, "down last", [], below)), False)
            self.assertIs(is_tree(SCHEMA, (2, "down last", [(1, None), (2, below)], None)), False)
            self.assertIs(is_tree(SCHEMA, (2, "down last", [(1, below)], LEAF)), False)

    def test_a_column_again_on_another_way(self):
        tree = (2, "up last", [(1, (0, "up first", [(9, LEAF)], LEAF)), (2, (1, "down last", [], None))],
                (1, "down last", [(3, (0, "up last", [], None))], (0, "up first", [], None)))
        self.assertIs(is_tree(SCHEMA, tree), True)

    def test_something_wrong_deep_below(self):
        wrongs = [(1, "up first", [], None), (3, "up first", [], None), (True, "down last", [], None),
                  (1, "down last", [(True, None)], None), (1, "down last", [("1", None)], None),
                  (1, "down last", [(1, None), (1, None)], None), (1, "down last", (), None), (1, "down last", [], []),
                  (1, "down last", [], False), (1, "down last", []), [1, "down last", [], None], [], False, 0, "",
                  (-1, "down last", [], None), (1, "down", [], None), (1, ["down last"], [], None)]
        for wrong in wrongs:
            for tree in ((0, "up first", [], (2, "up last", [(1, None), (3, wrong)], None)),
                         (0, "up first", [(4, (2, "up last", [], wrong))], None),
                         (2, "up first", [(4, (0, "up last", [(5, wrong)], None))], None),
                         (2, "up first", [], (0, "up last", [], wrong))):
                self.assertIs(is_tree(SCHEMA, tree), False, tree)

    def test_a_way_with_all_six_columns(self):
        schema, tree = [("up first",)] * 6, None
        for column in range(6):
            tree = (column, "up first", [(column, tree)], tree)
        self.assertIs(is_tree(schema, tree), True)
        self.assertIs(is_tree(schema[:5], tree), False)

    def test_deep_things(self):
        for wrap in (lambda below: (0, "up first", [], below), lambda below: (0, "up first", [(1, below)], None)):
            deep = None
            for _ in range(20):
                deep = wrap(deep)
            self.assertIs(is_tree(SCHEMA, deep), False)


class Compare(unittest.TestCase):
    def told(self, order, one, other):
        schema = [("up first", "up last", "down first", "down last")]
        got = [compare(schema, rule, (one,), (other,)) for rule in ([(0, order)], (0, order, [], None))]
        self.assertEqual([type(result) for result in got], [int, int])
        self.assertEqual(got[0], got[1])
        return got[0]

    def test_whole_numbers(self):
        for one, other in ((1, 2), (-2, -1), (-1, 0), (9, 10), (-10, 9), (10 ** 30 - 2, 10 ** 30 - 1)):
            self.assertEqual([self.told(order, one, other) for order in ORDERS], [-1, -1, 1, 1])
            self.assertEqual([self.told(order, other, one) for order in ORDERS], [1, 1, -1, -1])
            self.assertEqual([self.told(order, one, one) for order in ORDERS], [0, 0, 0, 0])

    def test_empty_values(self):
        for number in (0, 1, -1, 10 ** 30, -10 ** 30):
            self.assertEqual([self.told(order, None, number) for order in ORDERS], [-1, 1, -1, 1])
            self.assertEqual([self.told(order, number, None) for order in ORDERS], [1, -1, 1, -1])
        self.assertEqual([self.told(order, None, None) for order in ORDERS], [0, 0, 0, 0])

    def test_the_first_step_with_different_values_decides(self):
        flat = [(2, "down first"), (0, "up last"), (1, "down last")]
        for rule in (flat, tree_of(SCHEMA, flat)):
            self.assertEqual(compare(SCHEMA, rule, (9, 0, 5), (1, 9, 4)), -1)
            self.assertEqual(compare(SCHEMA, rule, (9, 0, 5), (1, 9, 5)), 1)
            self.assertEqual(compare(SCHEMA, rule, (1, 0, 5), (1, 9, 5)), 1)
            self.assertEqual(compare(SCHEMA, rule, (1, 9, 5), (1, 9, 5)), 0)

    def test_columns_without_a_step_do_not_count(self):
        self.assertEqual(compare(SCHEMA, [(1, "down last")], (1, 7, 3), (2, 7, None)), 0)
        self.assertEqual(compare(SCHEMA, [], (1, 2, 3), (4, 5, 6)), 0)
        self.assertEqual(compare(SCHEMA, None, (1, 2, 3), (4, 5, 6)), 0)

    def test_branches_that_hold_and_other(self):
        tree = (0, "up first", [(5, (1, "down last", [], None)), (None, None)],
                (2, "up last", [(0, (1, "down last", [], None))], None))
        expected = {((5, 1, 2), (5, 2, 1)): 1, ((5, 2, 1), (5, 2, 9)): 0, ((None, 1, 2), (None, 2, 1)): 0,
                    ((4, 1, 2), (4, 2, 1)): 1, ((4, 1, 0), (4, 2, 0)): 1, ((4, 1, 3), (4, 2, 3)): 0,
                    ((4, 1, 0), (4, 2, 1)): -1, ((0, 1, 0), (5, 9, 9)): -1, ((None, 1, 0), (5, 9, 9)): -1}
        for (x, y), result in expected.items():
            self.assertEqual(compare(SCHEMA, tree, x, y), result, (x, y))
            self.assertEqual(compare(SCHEMA, tree, y, x), -result, (x, y))

    def test_a_branch_for_0_is_not_one_for_the_empty_value(self):
        tree = (0, "up first", [(0, LEAF)], None)
        self.assertEqual(compare(SCHEMA, tree, (None, 1, 1), (None, 2, 2)), 0)
        self.assertEqual(compare(SCHEMA, tree, (0, 1, 1), (0, 2, 2)), 1)

    def test_rules_made_by_chance(self):
        chance = random.Random(7)
        for _ in range(150):
            schema = chance_schema(chance, 3)
            rows = all_rows(schema, [None, 0, 1, -4])
            for rule in (chance_flat(chance, schema), chance_tree(chance, schema, [None, 0, 1, 8])):
                for x, y in [(chance.choice(rows), chance.choice(rows)) for _ in range(30)]:
                    got = compare(schema, rule, x, y)
                    self.assertEqual(got, opinion(rule, x, y), (schema, rule, x, y))
                    self.assertEqual(compare(schema, rule, y, x), -got)

    def test_a_large_tree(self):
        schema = [("up first",)] * 6
        tree = (5, "up first", [(value, None) for value in range(2000)], wide_tree((0, 1), 298))
        self.assertEqual(compare(schema, tree, (7, 2, 0, 0, 0, 9999), (7, 1, 0, 0, 0, 9999)), 1)
        self.assertEqual(compare(schema, tree, (7, 2, 0, 0, 0, 1999), (7, 1, 0, 0, 0, 1999)), 0)


class Errors(unittest.TestCase):
    def calls(self, schema, thing, x):
        """All functions of this stage, with the same thing as every rule and the same row."""
        return [(is_flat, (schema, thing)), (is_tree, (schema, thing)), (compare, (schema, thing, x, x)),
                (tree_of, (schema, thing)), (plain, (schema, thing)), (parting, (schema, thing, thing))]

    def raises(self, error, function, *arguments):
        """The function raises just this error and leaves the arguments as they were."""
        before = repr(arguments)
        with self.assertRaises(error) as caught:
            function(*arguments)
        self.assertIs(type(caught.exception), error)
        self.assertEqual(repr(arguments), before)

    def test_no_schema_ahead_of_all_else(self):
        for schema in NO_SCHEMAS:
            for thing in (None, [], LEAF, 0, [(9, "up first")]):
                for x in ((1,), None):
                    for function, arguments in self.calls(copy.deepcopy(schema), thing, x):
                        self.raises(NoSchema, function, *arguments)

    def test_no_rule(self):
        for thing in NEITHER:
            for function, arguments in self.calls(SCHEMA, thing, (1, 2, 3))[2:]:
                self.raises(NoRule, function, *arguments)
            for rule in ([], None, LEAF, [(1, "down last")]):
                self.raises(NoRule, parting, SCHEMA, thing, rule)
                self.raises(NoRule, parting, SCHEMA, rule, thing)

    def test_tree_of_takes_no_tree_and_plain_no_flat_rule(self):
        for tree in (None, LEAF):
            self.raises(NoRule, tree_of, SCHEMA, tree)
        for flat in ([], [(1, "down last")]):
            self.raises(NoRule, plain, SCHEMA, flat)

    def test_a_rule_of_another_schema(self):
        for rule in ([(2, "up first")], (0, "up first", [], (2, "up first", [], None))):
            self.assertEqual(compare(SCHEMA, rule, (1, 1, 1), (1, 1, 1)), 0)
            self.raises(NoRule, compare, SCHEMA[:2], rule, (1, 1), (1, 1))

    def test_no_row(self):
        for rule in ([], None, LEAF):
            for row in NO_ROWS:
                self.raises(NoRow, compare, SCHEMA, rule, row, (1, 2, 3))
                self.raises(NoRow, compare, SCHEMA, rule, (1, 2, 3), row)
                self.raises(NoRow, compare, SCHEMA, rule, row, row)

    def test_no_rule_ahead_of_no_row(self):
        for thing in NEITHER:
            self.raises(NoRule, compare, SCHEMA, thing, None, (1, 2, 3))
            self.raises(NoRule, compare, SCHEMA, thing, (1, 2, 3), [1])


if __name__ == "__main__":
    unittest.main()
