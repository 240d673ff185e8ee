"""Point 20: the class Sorter."""

import copy
import functools
import inspect
import itertools
import random
import unittest

from samples import (NO_SCHEMAS, ODD, ORDERS, SCHEMA, all_rows, chance_flat, chance_schema, chance_tree, lists_in,
                     opinion, same_results, share_a_list)
from wrong import NO_ROWS

from sortclues import sorter as module
from sortclues.errors import NoRow, NoRows, NoRule, NoSchema, NotAllowed
from sortclues.evidence import Evidence
from sortclues.rules import compare, plain, tree_of
from sortclues.sorter import Sorter

UP = [("up first",), ("up first",)]
ALL = [ORDERS, ORDERS]
FLAT = [(1, "down last"), (0, "up first")]
TREE = (0, "up last", [(7, (1, "down first", [(None, None)], None)), (None, None)], (1, "up first", [], None))
CONTRARY = {"up first": "down last", "up last": "down first", "down first": "up last", "down last": "up first"}


def turned(rule):
    """The contrary rule of a rule, told in another way."""
    if rule is None:
        return None
    if isinstance(rule, list):
        return [(column, CONTRARY[order]) for column, order in rule]
    column, order, branches, other = rule
    return (column, CONTRARY[order], [(value, turned(below)) for value, below in branches], turned(other))


def sorted_by(rule, rows):
    """The rows in the order of a rule, those that are alike in theirs."""
    return sorted(rows, key=functools.cmp_to_key(lambda x, y: opinion(rule, x, y)))


def chance_rule(chance, schema, values=(None, 0, 1)):
    """A flat rule or a tree of the schema."""
    return chance.choice([chance_flat(chance, schema), chance_tree(chance, schema, list(values))])


class TheExample(unittest.TestCase):
    def test_point_20(self):
        sorter = Sorter(UP, [(0, "up first")])
        got = [sorter((2, 0), (1, 0)), sorter.arranged([(2, 0), (1, 5), (2, 3), (1, 1)]),
               sorter.shown([(1, 5), (1, 1), (2, 0)])]
        self.assertEqual(got, [1, [(1, 5), (1, 1), (2, 0), (2, 3)], True])


class Interface(unittest.TestCase):
    def test_names_and_arguments(self):
        listed = {"__init__": "(self, schema, rule)", "__call__": "(self, x, y)", "arranged": "(self, rows)",
                  "shown": "(self, rows)"}
        for name, arguments in listed.items():
            self.assertEqual(str(inspect.signature(vars(Sorter)[name])), arguments)
        self.assertEqual((Sorter.__module__, Sorter.__bases__), ("sortclues.sorter", (object,)))
        self.assertIs(vars(module)["Sorter"], Sorter)
        self.assertIsInstance(vars(Sorter)["rule"], property)
        self.assertTrue({"__eq__", "__neg__"} <= set(vars(Sorter)))

    def test_arguments_by_name(self):
        sorter = Sorter(rule=FLAT, schema=ALL)
        self.assertEqual(sorter(y=(2, 5), x=(1, 5)), -1)
        self.assertEqual(sorter.arranged(rows=[(2, 5), (1, 5)]), [(1, 5), (2, 5)])
        self.assertIs(sorter.shown(rows=[(2, 5), (1, 5)]), False)


class Calls(unittest.TestCase):
    def test_what_compare_returns(self):
        chance = random.Random(81)
        results = set()
        for _ in range(150):
            schema = chance_schema(chance, 3)
            rule = chance_rule(chance, schema)
            sorter = Sorter(schema, rule)
            rows = all_rows(schema, [None, 0, 1])
            for x, y in chance.choices(list(itertools.product(rows, rows)), k=40):
                got = sorter(x, y)
                self.assertEqual(got, compare(schema, rule, x, y))
                self.assertEqual((got, type(got)), (opinion(rule, x, y), int))
                results.add(got)
        self.assertEqual(results, {-1, 0, 1})

    def test_no_row(self):
        sorter = Sorter(SCHEMA, [(0, "up first")])
        for thing in NO_ROWS:
            for pair in ((thing, (1, 2, 3)), ((1, 2, 3), thing), (thing, thing)):
                self.assertRaises(NoRow, sorter, *pair)


class Arranged(unittest.TestCase):
    def check(self, schema, rule, rows):
        """The rows are arranged as the rule says, and the order in which they are shown is told."""
        sorter = Sorter(schema, rule)
        before = list(rows)
        got = sorter.arranged(rows)
        self.assertEqual(got, sorted_by(rule, rows), (schema, rule, rows))
        self.assertEqual(rows, before)
        self.assertFalse(share_a_list(got, rows))
        self.assertIs(sorter.shown(got), True)
        self.assertEqual(sorter.arranged(got), got)
        is_shown = all(opinion(rule, x, y) != 1 for x, y in itertools.combinations(rows, 2))
        self.assertIs(sorter.shown(rows), is_shown)
        return is_shown

    def test_no_row_and_one_row(self):
        for rule in ([], None, FLAT, TREE):
            for rows in ([], [(7, 1)], [(7, 1), (7, 1)]):
                self.assertIs(self.check(ALL, rule, rows), True)
                self.assertEqual(Sorter(ALL, rule).arranged(rows), rows)

    def test_rows_that_are_alike_stay_in_their_order(self):
        rows = [(2, 0), (1, 5), (2, 3), (1, 1), (2, 0), (1, 5)]
        self.assertEqual(Sorter(UP, []).arranged(rows), rows)
        self.assertEqual(Sorter(UP, None).arranged(rows), rows)
        self.assertEqual(Sorter(ALL, [(0, "up last")]).arranged(rows), [rows[1], rows[3], rows[5], *rows[::2]])
        self.assertEqual(Sorter(ALL, [(0, "down last")]).arranged(rows), [*rows[::2], rows[1], rows[3], rows[5]])
        for rule in ([(0, "down last")], [(1, "up last")], (0, "up first", [(1, (1, "up last", [], None))], None)):
            self.check(ALL, rule, rows)

    def test_each_order(self):
        rows = [(5,), (None,), (-3,), (10 ** 30,), (0,), (None,), (-10 ** 30,), (5,)]
        up = [(-10 ** 30,), (-3,), (0,), (5,), (5,), (10 ** 30,)]
        for order, expected in (("up first", [(None,)] * 2 + up), ("up last", up + [(None,)] * 2),
                                ("down first", [(None,)] * 2 + up[::-1]), ("down last", up[::-1] + [(None,)] * 2)):
            for rule in ([(0, order)], (0, order, [(5, None)], None)):
                self.assertEqual(Sorter([ORDERS], rule).arranged(rows), expected)

    def test_trees_with_branches(self):
        rows = [(8, 2), (7, 1), (None, 5), (8, 1), (7, 3), (None, 1), (7, None), (8, None), (7, 2)]
        self.assertEqual(Sorter(ALL, TREE).arranged(rows), [
            (7, None), (7, 3), (7, 2), (7, 1), (8, None), (8, 1), (8, 2), (None, 5), (None, 1)])
        self.assertIs(self.check(ALL, TREE, rows), False)

    def test_one_row_behind_another_far_after_it(self):
        sorter = Sorter(UP, [(0, "up first")])
        self.assertIs(sorter.shown([(1, at) for at in range(59)] + [(0, 0)]), False)
        self.assertIs(sorter.shown([(2, 0)] + [(1, at) for at in range(59)]), False)
        self.assertIs(sorter.shown([(1, at) for at in range(60)]), True)
        self.assertIs(sorter.shown([(1, 3), (1, 2), (2, 0), (2, 0)]), True)

    def test_made_by_chance(self):
        chance = random.Random(82)
        shown = {True: 0, False: 0}
        for _ in range(400):
            schema = chance_schema(chance, 4)
            rule = chance_rule(chance, schema, (None, 0, 1, 2))
            rows = [tuple(chance.choice([None, 0, 1, 2]) for _ in schema) for _ in range(chance.choice([2, 3, 9, 60]))]
            shown[self.check(schema, rule, rows)] += 1
        self.assertGreater(min(shown.values()), 50)

    def test_the_list_belongs_to_the_caller(self):
        sorter = Sorter(UP, [(0, "up first")])
        rows = [(2, 0), (1, 5)]
        first = sorter.arranged(rows)
        first.append("changed")
        self.assertEqual(sorter.arranged(rows), [(1, 5), (2, 0)])
        got = sorter.arranged(rows)
        rows.clear()
        self.assertEqual(got, [(1, 5), (2, 0)])

    def test_no_rows(self):
        sorter = Sorter(SCHEMA, [(0, "up first")])
        row = (1, 2, 3)
        things = [thing for thing in ODD + NO_ROWS if thing != []] + [
            None, row, (row, row), [row, row, (1, 2)], [(1, 2, True), row], [row, None], [[row]], [[1, 2, 3]], "123"]
        things += [[thing] for thing in NO_ROWS]
        for thing in things:
            before = repr(thing)
            self.assertRaises(NoRows, sorter.arranged, thing)
            self.assertRaises(NoRows, sorter.shown, thing)
            self.assertEqual(repr(thing), before)


class Rule(unittest.TestCase):
    def test_an_equal_rule_of_its_own_each_time(self):
        chance = random.Random(83)
        for _ in range(100):
            schema = chance_schema(chance, 4)
            rule = chance_rule(chance, schema)
            before = copy.deepcopy((schema, rule))
            sorter = Sorter(schema, rule)
            reads = [sorter.rule, sorter.rule, rule]
            self.assertEqual((schema, rule), before)
            for one, other in itertools.combinations(reads, 2):
                self.assertEqual((one, type(one)), (other, type(other)))
                self.assertFalse(share_a_list(one, other))

    def test_a_rule_that_is_changed_afterwards(self):
        for rule in (FLAT, TREE, [], (0, "up first", [], None)):
            schema, given = copy.deepcopy(ALL), copy.deepcopy(rule)
            sorter = Sorter(schema, given)
            rows = [(8, 2), (7, 1), (None, 5), (8, 1), (7, 3)]
            for found in lists_in(given) + lists_in(sorter.rule) + [schema]:
                found.append("changed")
                found.reverse()
            self.assertEqual(sorter.rule, rule)
            self.assertEqual(sorter, Sorter(ALL, rule))
            self.assertEqual(sorter.arranged(rows), sorted_by(rule, rows))
            self.assertEqual((-(-sorter)).rule, rule)

    def test_one_list_in_several_places(self):
        leaf = (1, "up last", [(3, None)], None)
        tree = (0, "up first", [(1, leaf), (2, leaf)], leaf)
        got = Sorter(ALL, tree).rule
        self.assertEqual(got, tree)
        marks = [id(found) for found in lists_in(got)]
        self.assertEqual(len(marks), len(set(marks)), "a list stands twice")

    def test_it_cannot_be_set(self):
        sorter = Sorter(ALL, FLAT)
        with self.assertRaises(AttributeError):
            sorter.rule = []
        self.assertEqual(sorter.rule, FLAT)


class Equality(unittest.TestCase):
    def check(self, one, other, expected):
        """Both are equal or not, both ways, in True or False."""
        for left, right in ((one, other), (other, one)):
            self.assertIs(left == right, expected)
            self.assertIs(left != right, not expected)

    def test_a_flat_rule_and_a_tree(self):
        self.check(Sorter(ALL, FLAT), Sorter(ALL, list(FLAT)), True)
        self.check(Sorter(ALL, FLAT), Sorter(ALL, tree_of(ALL, FLAT)), True)
        self.check(Sorter(ALL, []), Sorter(ALL, None), True)
        self.check(Sorter(ALL, FLAT), Sorter(ALL, FLAT[::-1]), False)
        self.check(Sorter(ALL, FLAT), Sorter(ALL, FLAT[:1]), False)
        self.check(Sorter(ALL, [(0, "up first")]), Sorter(ALL, [(0, "up last")]), False)
        self.check(Sorter(ALL, []), Sorter(ALL, [(0, "up last")]), False)

    def test_branches(self):
        leaf = (1, "up last", [], None)
        self.check(Sorter(ALL, (0, "up first", [(1, leaf), (None, leaf)], None)),
                   Sorter(ALL, (0, "up first", [(None, leaf), (1, leaf)], None)), True)
        flat = [(0, "up first"), (1, "up last")]
        self.check(Sorter(ALL, (0, "up first", [(1, leaf)], leaf)), Sorter(ALL, flat), True)
        self.check(Sorter(ALL, (0, "up first", [(1, None)], None)), Sorter(ALL, [(0, "up first")]), True)
        self.check(Sorter(ALL, (0, "up first", [(1, leaf)], None)), Sorter(ALL, [(0, "up first")]), False)
        self.check(Sorter(ALL, TREE), Sorter(ALL, plain(ALL, TREE)), True)

    def test_another_schema(self):
        self.check(Sorter(UP, []), Sorter(ALL, []), False)
        self.check(Sorter(UP, []), Sorter(UP + UP, []), False)
        self.check(Sorter([("up first", "up last")], []), Sorter([("up last", "up first")], []), False)
        self.check(Sorter(UP, [(0, "up first")]), Sorter(list(UP), [(0, "up first")]), True)

    def test_other_things(self):
        sorter = Sorter(ALL, FLAT)
        for thing in ODD + [None, FLAT, TREE, [FLAT], "sorter", Evidence(ALL)]:
            self.check(sorter, thing, False)
        self.check(Sorter(ALL, None), None, False)
        self.check(Sorter(ALL, []), [], False)

    def test_made_by_chance(self):
        chance = random.Random(84)
        many = {True: 0, False: 0}
        for _ in range(400):
            schema = chance_schema(chance, 2)
            one, other = chance_rule(chance, schema), chance_rule(chance, schema)
            expected = same_results(one, other, all_rows(schema, [None, 0, 1, 2]))
            self.check(Sorter(schema, one), Sorter(schema, other), expected)
            many[expected] += 1
        self.assertGreater(min(many.values()), 40)


class Negative(unittest.TestCase):
    def test_each_order(self):
        for order in ORDERS:
            sorter = -Sorter([ORDERS], [(0, order)])
            self.assertIs(type(sorter), Sorter)
            self.assertEqual(sorter.rule, [(0, CONTRARY[order])])
            self.assertEqual((-Sorter([ORDERS], (0, order, [(3, None)], None))).rule,
                             (0, CONTRARY[order], [(3, None)], None))
            self.assertEqual((-sorter).rule, [(0, order)])

    def test_ahead_the_other_way_about(self):
        chance = random.Random(85)
        for _ in range(150):
            schema = [ORDERS] * chance.randint(1, 3)
            rule = chance_rule(chance, schema)
            sorter = Sorter(schema, rule)
            other = -sorter
            self.assertEqual(other.rule, turned(rule))
            self.assertEqual((sorter.rule, (-other).rule), (rule, rule))
            self.assertEqual(-other, sorter)
            self.assertFalse(share_a_list(other.rule, sorter.rule))
            for x, y in chance.choices(list(itertools.product(all_rows(schema, [None, 0, 1]), repeat=2)), k=30):
                self.assertEqual(other(x, y), sorter(y, x))

    def test_nothing_to_turn(self):
        for rule in ([], None):
            self.assertEqual((-Sorter(UP, rule)).rule, rule)

    def test_not_allowed(self):
        for order in ORDERS:
            for orders in ((order,), tuple(set(ORDERS) - {CONTRARY[order]})):
                for rule in ([(0, order)], (0, order, [], None)):
                    sorter = Sorter([orders, ORDERS], rule)
                    with self.assertRaises(NotAllowed):
                        -sorter
                    self.assertEqual(sorter.rule, rule)
            self.assertEqual((-Sorter([(order, CONTRARY[order])], [(0, order)])).rule, [(0, CONTRARY[order])])

    def test_not_allowed_somewhere_in_the_rule(self):
        schema = [ORDERS, ("up first",), ORDERS]
        low = (1, "up first", [], None)
        for rule in ([(0, "up last"), (2, "up first"), (1, "up first")], (0, "up last", [(1, low)], None),
                     (0, "up last", [(1, None)], (2, "down first", [], low)), (1, "up first", [], None)):
            with self.assertRaises(NotAllowed):
                -Sorter(schema, rule)
        sorter = -Sorter(schema, [(2, "up first"), (0, "up last")])
        self.assertEqual(sorter.rule, [(2, "down last"), (0, "down first")])
        # Branches that make no difference are part of the rule all the same.
        with self.assertRaises(NotAllowed):
            -Sorter([ORDERS, ("up first",)], (0, "up last", [(1, low)], low))


class Refusals(unittest.TestCase):
    NO_RULE = [True, 0, "", "up first", (), [None], ((0, "up first"),), [(0, "down last")], [(3, "up first")],
               [(0, "up first")] * 2, (0, "up first", (), None), (0, "up first", [], []), [(0, "up first", [], None)],
               (0, "up first", [(1, None), (1, None)], None), (0, "up first", [], (0, "up last", [], None))]

    def test_no_schema(self):
        for schema in NO_SCHEMAS:
            self.assertRaises(NoSchema, Sorter, schema, [])
            self.assertRaises(NoSchema, Sorter, schema, "")

    def test_no_rule(self):
        for rule in self.NO_RULE:
            before = repr(rule)
            self.assertRaises(NoRule, Sorter, SCHEMA, rule)
            self.assertEqual(repr(rule), before)


if __name__ == "__main__":
    unittest.main()
