"""Point 8, and point 2 for what it returns: tree_of, plain and parting."""

import copy
import itertools
import random
import time
import unittest

from samples import (ORDERS, SCHEMA, all_rows, chance_flat, chance_schema, chance_tree, is_plain, opinion,
                     repeats_a_list, same_results, share_a_list, tuples_of_four, wide_tree)

from sortclues.rules import compare, is_tree, parting, plain, tree_of
from sortclues.schemas import is_row

LEAF = (1, "down last", [], None)
OTHER_LEAF = (2, "up first", [], None)
VALUES = [None, 0, 1]
# 7 is in no branch, and between any two of these each order is seen.
PROBES = VALUES + [7]


def small_schema(chance):
    """A schema whose rows over PROBES are few."""
    return chance_schema(chance, 3)


def rules_by_chance(chance, schema):
    """A flat rule, its tree and two other trees."""
    flat = chance_flat(chance, schema)
    return [flat, tree_of(schema, flat), chance_tree(chance, schema, VALUES), chance_tree(chance, schema, VALUES)]


def shuffled(chance, tree):
    """The same tree with all branches in another order."""
    if tree is None:
        return None
    column, order, branches, other = tree
    mixed = [(value, shuffled(chance, below)) for value, below in chance.sample(branches, len(branches))]
    return (column, order, mixed, shuffled(chance, other))


def padded(tree):
    """The same tree with a needless branch wherever the value 7 has none, of the very same lists."""
    if tree is None:
        return None
    column, order, branches, other = tree
    rest = padded(other)
    more = [(value, padded(below)) for value, below in branches]
    return (column, order, [(7, rest)] + more, rest)


class TreeOf(unittest.TestCase):
    def test_flat_rules(self):
        self.assertIsNone(tree_of(SCHEMA, []))
        self.assertEqual(tree_of(SCHEMA, [(2, "up last")]), (2, "up last", [], None))
        flat = [(2, "down first"), (0, "up last"), (1, "down last")]
        expected = (2, "down first", [], (0, "up last", [], (1, "down last", [], None)))
        self.assertEqual(tree_of(SCHEMA, flat), expected)

    def test_it_compares_as_the_flat_rule(self):
        chance = random.Random(1)
        for _ in range(60):
            schema = small_schema(chance)
            flat = chance_flat(chance, schema)
            tree = tree_of(schema, flat)
            self.assertTrue(same_results(flat, tree, all_rows(schema, PROBES)), flat)
            self.assertTrue(is_plain(tree))

    def test_each_list_is_the_callers_own(self):
        flat = [(column, "up first") for column in range(6)]
        tree = tree_of([ORDERS] * 6, flat)
        expected = copy.deepcopy(tree)
        self.assertFalse(repeats_a_list(tree))
        self.assertFalse(share_a_list(tree, flat))
        flat.clear()
        self.assertEqual(tree, expected)
        tree[2].append((1, None))
        self.assertEqual(tree_of(SCHEMA, [(0, "up first")]), (0, "up first", [], None))


class Plain(unittest.TestCase):
    def test_ascending_values_the_empty_one_first(self):
        values = [3, -1, None, 10, 2, 10 ** 30, -10 ** 30, 0]
        tree = (0, "down first", [(value, LEAF) for value in values], None)
        ordered = [None, -10 ** 30, -1, 0, 2, 3, 10, 10 ** 30]
        schema = [ORDERS, ("down last",)]
        self.assertEqual(plain(schema, tree), (0, "down first", [(value, LEAF) for value in ordered], None))

    def test_no_branch_equal_to_other(self):
        self.assertIsNone(plain(SCHEMA, None))
        self.assertEqual(plain(SCHEMA, (0, "up last", [(1, None)], None)), (0, "up last", [], None))
        self.assertEqual(plain(SCHEMA, (0, "up last", [(1, LEAF), (0, None)], LEAF)),
                         (0, "up last", [(0, None)], LEAF))

    def test_a_branch_that_becomes_equal_to_other(self):
        loose = (1, "down last", [(4, OTHER_LEAF), (3, OTHER_LEAF)], OTHER_LEAF)
        tight = (1, "down last", [], OTHER_LEAF)
        self.assertEqual(plain(SCHEMA, (0, "up first", [(1, loose)], tight)), (0, "up first", [], tight))
        self.assertEqual(plain(SCHEMA, (0, "up first", [(1, tight)], loose)), (0, "up first", [], tight))
        one = (1, "down last", [(4, None), (3, OTHER_LEAF)], None)
        two = (1, "down last", [(3, OTHER_LEAF), (9, None)], None)
        self.assertEqual(plain(SCHEMA, (0, "up first", [(1, one), (2, None)], two)),
                         (0, "up first", [(2, None)], (1, "down last", [(3, OTHER_LEAF)], None)))

    def test_deep_below(self):
        below = (2, "up last", [(5, LEAF), (None, LEAF), (-5, None)], None)
        tidy = (2, "up last", [(None, LEAF), (5, LEAF)], None)
        self.assertEqual(plain(SCHEMA, (0, "up first", [(1, below)], None)), (0, "up first", [(1, tidy)], None))
        self.assertEqual(plain(SCHEMA, (0, "up first", [], below)), (0, "up first", [], tidy))

    def test_trees_made_by_chance(self):
        chance = random.Random(2)
        for _ in range(80):
            schema = small_schema(chance)
            tree = chance_tree(chance, schema, VALUES)
            got = plain(schema, tree)
            self.assertIs(is_tree(schema, got), True)
            self.assertTrue(is_plain(got), tree)
            self.assertTrue(same_results(tree, got, all_rows(schema, PROBES)), tree)
            self.assertEqual(plain(schema, got), got)

    def test_other_orders_and_needless_branches_give_the_same(self):
        chance = random.Random(3)
        for _ in range(200):
            schema = chance_schema(chance, 6)
            tree = chance_tree(chance, schema, VALUES)
            expected = plain(schema, tree)
            self.assertEqual(plain(schema, shuffled(chance, tree)), expected)
            self.assertEqual(plain(schema, padded(tree)), expected)
            self.assertEqual(plain(schema, padded(expected)), expected)

    def test_the_argument_stays_as_it_was(self):
        tree = (0, "up first", [(5, (2, "up first", [(7, LEAF), (6, None)], None)), (1, LEAF)], LEAF)
        before = copy.deepcopy(tree)
        got = plain(SCHEMA, tree)
        self.assertEqual(tree, before)
        self.assertFalse(share_a_list(tree, got))
        expected = copy.deepcopy(got)
        tree[2][0][1][2].clear()
        tree[2].clear()
        self.assertEqual(got, expected)

    def test_a_plain_tree_is_not_returned_itself(self):
        for tree in (LEAF, (0, "up first", [], LEAF), (0, "up first", [(1, LEAF)], (2, "up last", [(1, LEAF)], None))):
            got = plain(SCHEMA, tree)
            self.assertEqual(got, tree)
            self.assertFalse(share_a_list(tree, got))
            again = plain(SCHEMA, tree)
            self.assertFalse(share_a_list(again, got))
            got[2].append((99, None))
            self.assertEqual(plain(SCHEMA, tree), tree)

    def test_no_list_twice_though_the_argument_has_some(self):
        leaf = (1, "down last", [(3, None)], OTHER_LEAF)
        rest = (2, "up last", [(5, LEAF), (6, LEAF)], None)
        tree = (0, "up first", [(1, leaf), (2, leaf), (3, leaf)], rest)
        got = plain(SCHEMA, tree)
        self.assertEqual([value for value, _ in got[2]], [1, 2, 3])
        self.assertFalse(repeats_a_list(got))
        empty = []
        one_list = (0, "up first", empty, (1, "down last", empty, (2, "up last", empty, None)))
        self.assertEqual(plain(SCHEMA, one_list), one_list)
        self.assertFalse(repeats_a_list(plain(SCHEMA, one_list)))


class Parting(unittest.TestCase):
    def check(self, schema, one, other):
        """parting tells right whether the rules are the same, and rows of the schema if not."""
        before = copy.deepcopy((schema, one, other))
        got = parting(schema, one, other)
        self.assertEqual((schema, one, other), before)
        trees = [plain(schema, tree_of(schema, rule) if isinstance(rule, list) else rule) for rule in (one, other)]
        if trees[0] == trees[1]:
            self.assertIsNone(got)
            return False
        self.assertEqual([type(got), len(got)], [tuple, 2])
        x, y = got
        self.assertTrue(is_row(schema, x) and is_row(schema, y), got)
        self.assertNotEqual(compare(schema, one, x, y), compare(schema, other, x, y))
        self.assertNotEqual(opinion(one, x, y), opinion(other, x, y))
        return True

    def test_none_just_where_all_results_are_the_same(self):
        chance = random.Random(4)
        many = {True: 0, False: 0}
        for _ in range(40):
            schema = small_schema(chance)
            rows = all_rows(schema, PROBES)
            rules = rules_by_chance(chance, schema)
            for one, other in itertools.product(rules, repeat=2):
                parts = self.check(schema, one, other)
                self.assertEqual(parts, not same_results(one, other, rows), (one, other))
                many[parts] += 1
        self.assertGreater(min(many.values()), 100)

    def test_a_flat_rule_and_its_tree(self):
        for flat in ([], [(1, "down last")], [(2, "up last"), (0, "up first"), (1, "down last")]):
            tree = tree_of(SCHEMA, flat)
            for one, other in itertools.product((flat, tree), repeat=2):
                self.assertFalse(self.check(SCHEMA, one, other))
        self.assertIsNone(parting(SCHEMA, [(0, "up last")], (0, "up last", [(3, None), (1, None)], None)))

    def test_two_orders_of_one_column(self):
        for one, other in itertools.permutations(ORDERS, 2):
            self.assertTrue(self.check([ORDERS], [(0, one)], [(0, other)]))
            below = [(1, "up first", [], (0, order, [], None)) for order in (one, other)]
            self.assertTrue(self.check([ORDERS] * 2, *below))

    def test_two_columns_in_another_order(self):
        for one, other in itertools.product(ORDERS, repeat=2):
            schema = [(one,), (other,)]
            self.assertTrue(self.check(schema, [(0, one), (1, other)], [(1, other), (0, one)]))
            self.assertTrue(self.check(schema, [(0, one)], [(1, other)]))
            self.assertTrue(self.check(schema, [(0, one)], [(0, one), (1, other)]))
            self.assertTrue(self.check(schema, [], [(1, other)]))
            self.assertTrue(self.check(schema, [(1, other)], None))

    def test_trees_that_part_in_one_branch_only(self):
        for value in (None, 0, 1, -5, 10 ** 30):
            branches = [(other, LEAF) for other in (0, None, 1, 2, -5, 10 ** 30) if other != value]
            one = (0, "up first", branches + [(value, OTHER_LEAF)], LEAF)
            other = (0, "up first", branches, LEAF)
            self.assertTrue(self.check(SCHEMA, one, other))
            self.assertTrue(self.check(SCHEMA, other, one))
            flat = [(0, "up first"), (1, "down last")]
            self.assertTrue(self.check(SCHEMA, (0, "up first", [(value, None)], LEAF), flat))

    def test_trees_that_part_in_other_only(self):
        branches = [(value, None) for value in (3, 1, 0, None, 2, -1, 5)]
        for one, other in itertools.permutations((LEAF, OTHER_LEAF, None), 2):
            self.assertTrue(self.check(SCHEMA, (0, "up first", branches, one), (0, "up first", branches, other)))

    def test_trees_that_part_deep_below(self):
        for one, other in itertools.permutations((LEAF, None), 2):
            inner = [(2, "up last", [(None, below), (8, LEAF)], LEAF) for below in (one, other)]
            trees = [(0, "up last", [(7, below)], LEAF) for below in inner]
            self.assertTrue(self.check(SCHEMA, *trees))
            trees = [(0, "up last", [(7, None)], (2, "up last", [(0, LEAF)], below)) for below in (one, other)]
            self.assertTrue(self.check(SCHEMA, *trees))

    def test_larger_schemas(self):
        chance = random.Random(5)
        for _ in range(200):
            schema = chance_schema(chance, 6)
            one, other = [chance_tree(chance, schema, [None, 0, 1, 2, 10 ** 30]) for _ in range(2)]
            self.check(schema, one, other)
            self.check(schema, one, shuffled(chance, padded(one)))
            self.check(schema, one, chance_flat(chance, schema))

    def test_the_same_question_has_the_same_answer(self):
        one, other = (0, "up first", [(1, LEAF), (4, OTHER_LEAF)], LEAF), (0, "up first", [(4, LEAF)], OTHER_LEAF)
        first = parting(SCHEMA, one, other)
        self.assertEqual([parting(SCHEMA, copy.deepcopy(one), other) for _ in range(5)], [first] * 5)


class Sizes(unittest.TestCase):
    def setUp(self):
        self.start = time.perf_counter()

    def tearDown(self):
        self.assertLess(time.perf_counter() - self.start, 10)

    def test_three_hundred_tuples(self):
        schema = [("up first", "down last")] * 6
        for tree in (wide_tree((3, 1), 299), wide_tree((0, 5, 2), 16), wide_tree((0, 1, 2, 3, 4, 5), 2),
                     wide_tree((5, 4, 3, 2, 1, 0), 2, -1)):
            got = plain(schema, tree)
            self.assertTrue(is_plain(got))
            self.assertEqual(plain(schema, got), got)
            self.assertFalse(share_a_list(tree, got))
            self.assertFalse(repeats_a_list(got))
            self.assertIsNone(parting(schema, tree, got))
            self.assertIs(is_tree(schema, tree), True)

    def test_a_tree_that_stays_large(self):
        schema = [("up first", "down last")] * 6
        leaves = [(value, (1, "down last", [(value, (2, "up first", [], None))], None)) for value in range(149, 0, -1)]
        tree = (0, "up first", leaves, None)
        self.assertEqual(tuples_of_four(tree), 299)
        got = plain(schema, tree)
        self.assertEqual(tuples_of_four(got), 299)
        self.assertEqual(got, (0, "up first", leaves[::-1], None))
        changed = leaves[:70] + [(leaves[70][0], leaves[71][1])] + leaves[71:]
        for one, other in itertools.permutations((tree, (0, "up first", changed, None)), 2):
            x, y = parting(schema, one, other)
            self.assertNotEqual(compare(schema, one, x, y), compare(schema, other, x, y))

    def test_many_branches(self):
        schema = [("up first", "down last")] * 6
        for sizes in ((2000, 2000), (2000, 1999)):
            trees = [(0, "up first", [(value, LEAF) for value in range(many)][::-1], None) for many in sizes]
            got = parting(schema, *trees)
            self.assertEqual(got is None, sizes[0] == sizes[1])
        tall = (0, "up first", [(value, None) for value in range(2000)], None)
        for column in range(1, 6):
            tall = (column, "up first", [(value, None) for value in range(1999)] + [(5000, tall)], None)
        self.assertEqual([len(plain(schema, tall)[2]), len(plain(schema, tall)[2][0][1][2])], [1, 1])


if __name__ == "__main__":
    unittest.main()
