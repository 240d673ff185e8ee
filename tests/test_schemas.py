"""Points 5 and 6: schemas, rows and steps."""

import copy
import inspect
import itertools
import unittest

from samples import NO_SCHEMAS, ODD, ORDERS, SCHEMA
from wrong import NO_COLUMNS

from sortclues import schemas
from sortclues.errors import NoColumns, NoRow, NoSchema, NoStep
from sortclues.schemas import (all_steps, check_columns, check_row, check_step, is_columns, is_row, is_schema,
                               is_step)


class TheExample(unittest.TestCase):
    def test_point_6(self):
        schema = [("up first", "up last"), ("down last",)]
        got = [is_schema(schema), is_schema(schema[0]), is_row(schema, (3, None)), all_steps(schema)]
        self.assertEqual(got, [True, False, True, [(0, "up first"), (0, "up last"), (1, "down last")]])


class Interface(unittest.TestCase):
    def test_names_and_arguments(self):
        listed = {"is_schema": ["thing"], "is_row": ["schema", "thing"], "all_steps": ["schema"]}
        for name, arguments in listed.items():
            function = getattr(schemas, name)
            self.assertEqual(list(inspect.signature(function).parameters), arguments)
            self.assertEqual(function.__module__, "sortclues.schemas")

    def test_arguments_by_name(self):
        self.assertIs(is_schema(thing=SCHEMA), True)
        self.assertIs(is_row(thing=(1, 2, 3), schema=SCHEMA), True)
        self.assertEqual(all_steps(schema=[("up last",)]), [(0, "up last")])


class Schemas(unittest.TestCase):
    def test_one_to_six_columns(self):
        for many in range(9):
            self.assertIs(is_schema([("up first",)] * many), 1 <= many <= 6, many)

    def test_each_choice_of_different_orders_is_a_column(self):
        for many in (1, 2, 3, 4):
            for column in itertools.permutations(ORDERS, many):
                self.assertIs(is_schema([column]), True, column)

    def test_an_order_twice_is_no_column(self):
        for many in (2, 3, 4, 5):
            for column in itertools.product(ORDERS, repeat=many):
                self.assertIs(is_schema([column]), len(set(column)) == many, column)

    def test_what_is_no_schema(self):
        for thing in NO_SCHEMAS:
            self.assertIs(is_schema(thing), False, thing)

    def test_one_wrong_column_anywhere(self):
        for wrong in ODD + [None, [], list(ORDERS)]:
            if wrong == ("up first",):
                continue
            for at in range(4):
                schema = [ORDERS] * 3
                schema.insert(at, wrong)
                self.assertIs(is_schema(schema), False, schema)

    def test_one_wrong_order_anywhere(self):
        for wrong in [thing for thing in ODD + [None, "first up", "up"] if thing != "up first"]:
            for at in range(3):
                column = list(ORDERS[:2])
                column.insert(at, wrong)
                self.assertIs(is_schema([tuple(column)]), False, column)

    def test_deep_and_large_things(self):
        deep = None
        for _ in range(19):
            deep = [deep]
        for thing in [deep, [ORDERS] * 2000, [ORDERS * 500], "x" * 4000, ("up first",) * 2000]:
            self.assertIs(is_schema(thing), False)


class Rows(unittest.TestCase):
    def test_values(self):
        for value in (None, 0, 1, -1, 10 ** 30 - 1, 1 - 10 ** 30):
            self.assertIs(is_row([ORDERS], (value,)), True, value)
            self.assertIs(is_row(SCHEMA, (0, None, value)), True, value)
            self.assertIs(is_row(SCHEMA, (value, 5, 5)), True, value)

    def test_no_values(self):
        for wrong in (True, False, "", "1", "empty", (), (1,), [], [1], [None]):
            for at in range(3):
                row = [1, None, 3]
                row[at] = wrong
                self.assertIs(is_row(SCHEMA, tuple(row)), False, row)

    def test_as_many_values_as_columns(self):
        for columns in range(1, 7):
            for many in range(9):
                self.assertIs(is_row([ORDERS] * columns, (None,) * many), many == columns)

    def test_a_list_is_no_row(self):
        self.assertIs(is_row(SCHEMA, [1, 2, 3]), False)
        self.assertIs(is_row([ORDERS], [1]), False)

    def test_what_is_no_row(self):
        for thing in [thing for thing in ODD if thing != (None,)] + [None, "123", [], [(1, 2, 3)], ((1, 2, 3),)]:
            self.assertIs(is_row(SCHEMA, thing), False, thing)
            self.assertIs(is_row([ORDERS], thing), False, thing)

    def test_check_row(self):
        self.assertIsNone(check_row(SCHEMA, (1, 2, None)))
        self.assertRaises(NoRow, check_row, SCHEMA, (1, 2))
        self.assertRaises(NoSchema, check_row, [], (1, 2))


class Steps(unittest.TestCase):
    def test_all_steps_column_by_column_in_the_order_of_the_schema(self):
        schema = [("down last", "up first"), ("up last",), ORDERS[::-1]]
        expected = [(0, "down last"), (0, "up first"), (1, "up last"), (2, "down last"), (2, "down first"),
                    (2, "up last"), (2, "up first")]
        self.assertEqual(all_steps(schema), expected)
        self.assertEqual([(type(step), type(step[0])) for step in all_steps(schema)], [(tuple, int)] * 7)

    def test_the_largest_and_the_least_schema(self):
        self.assertEqual(all_steps([ORDERS] * 6), [(column, order) for column in range(6) for order in ORDERS])
        self.assertEqual(all_steps([("down first",)]), [(0, "down first")])

    def test_the_list_belongs_to_the_caller(self):
        first = all_steps(SCHEMA)
        expected = list(first)
        first.clear()
        second = all_steps(SCHEMA)
        self.assertEqual(second, expected)
        self.assertIsNot(second, all_steps(SCHEMA))

    def test_a_later_change_of_the_schema_has_no_effect(self):
        schema = [("up first",)]
        steps = all_steps(schema)
        schema.append(("up last",))
        self.assertEqual(steps, [(0, "up first")])

    def test_is_step(self):
        for step in all_steps(SCHEMA):
            self.assertIs(is_step(SCHEMA, step), True)
        wrong = [(1, "up first"), (0, "down last"), (3, "up first"), (-1, "up first"), (True, "down last"),
                 (False, "up first"), [0, "up first"], (0, "up first", []), (0,), ("up first", 0), (0, None),
                 (None, "up first"), ((0,), "up first"), ([], "up first"), (0, ["up first"]), (0, 0), ("0", "up first")]
        for thing in wrong + ODD + [None]:
            self.assertIs(is_step(SCHEMA, thing), False, thing)
            self.assertRaises(NoStep, check_step, SCHEMA, thing)
        self.assertRaises(NoSchema, is_step, [], (0, "up first"))
        self.assertRaises(NoSchema, check_step, [], (0, "up first"))
        self.assertIsNone(check_step(SCHEMA, (1, "down last")))


class Columns(unittest.TestCase):
    def test_tuples_of_different_columns_in_any_order(self):
        for many in range(4):
            for columns in itertools.product(range(-1, 4), repeat=many):
                expected = len(set(columns)) == many and set(columns) <= {0, 1, 2}
                self.assertIs(is_columns(SCHEMA, columns), expected, columns)
        self.assertIsNone(check_columns(SCHEMA, (2, 0)))

    def test_what_is_no_columns(self):
        for thing in NO_COLUMNS:
            self.assertIs(is_columns(SCHEMA, thing), False, thing)
            self.assertRaises(NoColumns, check_columns, SCHEMA, thing)
        self.assertRaises(NoSchema, is_columns, [], ())
        self.assertRaises(NoSchema, check_columns, [], None)


class Errors(unittest.TestCase):
    def test_no_schema_ahead_of_all_else(self):
        for schema in NO_SCHEMAS:
            before = copy.deepcopy(schema)
            self.assertRaises(NoSchema, all_steps, schema)
            for thing in (None, (), (1,), (1, 2), [1], "up first"):
                self.assertRaises(NoSchema, is_row, schema, thing)
            self.assertEqual(repr(schema), repr(before))

    def test_right_calls_change_nothing(self):
        schema = copy.deepcopy(SCHEMA)
        is_schema(schema)
        is_row(schema, (1, 2, 3))
        all_steps(schema)
        self.assertEqual(schema, SCHEMA)


if __name__ == "__main__":
    unittest.main()
