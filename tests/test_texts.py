"""Point 21: what is written, and that it is read again as an equal thing."""

import inspect
import itertools
import random
import unittest

from samples import (ORDERS, SCHEMA, chance_flat, chance_schema, chance_tree, lists_in, repeats_a_list, share_a_list,
                     wide_tree)
from search import WORDS, chance_clues

from sortclues import texts
from sortclues.texts import (clue_text, clues_text, flat_text, read_clue, read_clues, read_flat, read_tree, tree_text)

ALL = [ORDERS] * 2
NUMBERS = [0, 5, -5, 10, -10, 100, 7000, -1, 10 ** 29, -10 ** 29, 10 ** 30 - 1, 1 - 10 ** 30,
           123456789012345678901234567890]


def text_of(tree, depth=0):
    """The text of a tree, told in another way: line by line with its depth."""
    if tree is None:
        return "  " * depth + "alike"
    column, order, branches, other = tree
    heads = [("empty" if value is None else str(value)) + ":" for value, _ in branches] + ["else:"]
    trees = [below for _, below in branches] + [other]
    parts = ["  " * depth + head + "\n" + text_of(below, depth + 1) for head, below in zip(heads, trees)]
    return "\n".join(["  " * depth + f"{column} {order}"] + parts)


class TheExamples(unittest.TestCase):
    def test_point_21(self):
        self.assertEqual(flat_text([(1, "up last"), (0, "down first")]), "1 up last, 0 down first")
        self.assertEqual(clue_text(("not behind", (1, None, -7), (0, 0, 5))), "1 empty -7 not behind 0 0 5")
        self.assertEqual(tree_text((0, "up last", [(5, None)], None)), "0 up last\n5:\n  alike\nelse:\n  alike")
        text = "0 up last\n5:\n  1 down first\n  empty:\n    alike\n  else:\n    alike\nelse:\n  alike"
        tree = (0, "up last", [(5, (1, "down first", [(None, None)], None))], None)
        self.assertEqual(tree_text(tree), text)
        self.assertEqual(read_tree(ALL, text), tree)
        self.assertEqual(read_flat(ALL, "1 up last, 0 down first"), [(1, "up last"), (0, "down first")])
        clue = ("not behind", (1, None, -7), (0, 0, 5))
        self.assertEqual(read_clue([ORDERS] * 3, "1 empty -7 not behind 0 0 5"), clue)


class Interface(unittest.TestCase):
    def test_names_and_arguments(self):
        listed = {"flat_text": "(flat)", "tree_text": "(tree)", "clue_text": "(clue)", "clues_text": "(clues)",
                  "read_flat": "(schema, text)", "read_tree": "(schema, text)", "read_clue": "(schema, text)",
                  "read_clues": "(schema, text)"}
        for name, arguments in listed.items():
            function = getattr(texts, name)
            self.assertEqual(str(inspect.signature(function)), arguments)
            self.assertEqual(function.__module__, "sortclues.texts")

    def test_arguments_by_name(self):
        clue = ("ahead", (1, 2), (3, 4))
        self.assertEqual([flat_text(flat=[]), tree_text(tree=None), clue_text(clue=clue), clues_text(clues=[clue])],
                         ["", "alike", "1 2 ahead 3 4", "1 2 ahead 3 4"])
        self.assertEqual([read_flat(text="", schema=ALL), read_tree(text="alike", schema=ALL)], [[], None])
        self.assertEqual(read_clue(text="1 2 ahead 3 4", schema=ALL), clue)
        self.assertEqual(read_clues(text="1 2 ahead 3 4", schema=ALL), [clue])


class Flat(unittest.TestCase):
    def test_none_one_and_more_steps(self):
        for flat, text in (([], ""), ([(3, "down last")], "3 down last"), ([(0, "up first")], "0 up first"),
                           ([(5, "up last"), (0, "down first"), (2, "up last")], "5 up last, 0 down first, 2 up last")):
            self.assertEqual(flat_text(flat), text)
            self.assertEqual(read_flat([ORDERS] * 6, text), flat)

    def test_made_by_chance(self):
        chance = random.Random(101)
        for _ in range(200):
            schema = chance_schema(chance, 6)
            flat = chance_flat(chance, schema)
            text = flat_text(flat)
            self.assertEqual(text, ", ".join(f"{column} {order}" for column, order in flat))
            got = read_flat(schema, text)
            self.assertEqual((got, type(got)), (flat, list))
            self.assertFalse(share_a_list(got, [schema, read_flat(schema, text)]))


class Trees(unittest.TestCase):
    def test_alike_and_one_step(self):
        for tree, text in ((None, "alike"), ((1, "down last", [], None), "1 down last\nelse:\n  alike"),
                           ((0, "up first", [], (1, "up last", [], None)),
                            "0 up first\nelse:\n  1 up last\n  else:\n    alike")):
            self.assertEqual(tree_text(tree), text)
            self.assertEqual(read_tree(ALL, text), tree)

    def test_branches_in_their_order(self):
        leaf = (1, "up last", [], None)
        for values in itertools.permutations([5, None, -3, 0]):
            tree = (0, "up first", [(value, leaf if value else None) for value in values], None)
            self.assertEqual(tree_text(tree), text_of(tree))
            self.assertEqual(read_tree(ALL, tree_text(tree)), tree)

    def test_numbers(self):
        tree = (0, "up first", [(value, None) for value in NUMBERS], None)
        lines = tree_text(tree).split("\n")
        self.assertEqual(lines[1:-2:2], [f"{value}:" for value in NUMBERS])
        self.assertEqual(read_tree(ALL, tree_text(tree)), tree)

    def test_trees_within_trees(self):
        tree = None
        for column in range(6):
            tree = (column, "down first", [(column, tree), (None, None)], tree)
        self.assertEqual(tree_text(tree), text_of(tree))
        self.assertEqual(read_tree([ORDERS] * 6, tree_text(tree)), tree)

    def test_made_by_chance(self):
        chance = random.Random(102)
        for _ in range(200):
            schema = chance_schema(chance, 6)
            tree = chance_tree(chance, schema, [None, 0, -1, 12])
            text = tree_text(tree)
            self.assertEqual(text, text_of(tree))
            got = read_tree(schema, text)
            self.assertEqual(got, tree)
            self.assertFalse(repeats_a_list(got))
            self.assertFalse(share_a_list(got, [schema, read_tree(schema, text)]))

    def test_one_list_in_several_places(self):
        low = [(3, None)]
        tree = (0, "up first", [(1, (1, "up last", low, None)), (2, (1, "up last", low, None))], None)
        got = read_tree(ALL, tree_text(tree))
        self.assertEqual((got, tree_text(tree)), (tree, text_of(tree)))
        self.assertFalse(repeats_a_list(got))
        self.assertEqual([len(found) for found in lists_in(got)], [2, 1, 1])

    def test_a_wide_tree(self):
        tree = wide_tree((2, 0, 1), 9, -4)
        self.assertEqual(read_tree(SCHEMA[:1] * 3, tree_text(tree)), tree)


class Clues(unittest.TestCase):
    def test_each_word_and_kind_of_value(self):
        for word in WORDS:
            for value in NUMBERS + [None]:
                clue = (word, (value, 3), (None, value))
                shown = "empty" if value is None else str(value)
                self.assertEqual(clue_text(clue), f"{shown} 3 {word} empty {shown}")
                self.assertEqual(read_clue(ALL, clue_text(clue)), clue)

    def test_each_number_of_columns(self):
        for columns in range(1, 7):
            clue = ("not behind", tuple(range(columns)), (None,) * columns)
            text = clue_text(clue)
            self.assertEqual(text, " ".join([str(at) for at in range(columns)] + ["not behind"] + ["empty"] * columns))
            self.assertEqual(read_clue([ORDERS] * columns, text), clue)
            self.assertEqual(read_clues([ORDERS] * columns, text), [clue])

    def test_lists_of_clues(self):
        clues = [("ahead", (1, 2), (3, None)), ("alike", (0, 0), (0, -1)), ("ahead", (1, 2), (3, None))]
        self.assertEqual(clues_text(clues), "1 2 ahead 3 empty\n0 0 alike 0 -1\n1 2 ahead 3 empty")
        for many in range(4):
            self.assertEqual(read_clues(ALL, clues_text(clues[:many])), clues[:many])
        self.assertEqual((clues_text([]), read_clues(ALL, "")), ("", []))

    def test_made_by_chance(self):
        chance = random.Random(103)
        for _ in range(100):
            schema = chance_schema(chance, 6)
            clues = chance_clues(chance, schema, chance.randint(0, 12), NUMBERS + [None])
            self.assertEqual(clues_text(clues), "\n".join(clue_text(clue) for clue in clues))
            got = read_clues(schema, clues_text(clues))
            self.assertEqual((got, type(got)), (clues, list))
            self.assertFalse(share_a_list(got, [schema, clues]))
            for clue in clues:
                self.assertEqual(read_clue(schema, clue_text(clue)), clue)


class LongNumbers(unittest.TestCase):
    def number(self, digits):
        """The whole number with these digits, read ten at a time: Python itself refuses very many at once."""
        number = 0
        for at in range(0, len(digits), 10):
            number = number * 10 ** len(digits[at:at + 10]) + int(digits[at:at + 10])
        return number

    def test_as_many_digits_as_a_text_may_have(self):
        chance = random.Random(104)
        for many in (1, 2, 59, 60, 61, 119, 120, 121, 3980, 4400, 9000):
            drawn = "".join(chance.choice("0123456789") for _ in range(many - 1))
            for digits in ("7" + drawn, "1" + "0" * (many - 1), "9" * many):
                for sign, number in (("", self.number(digits)), ("-", -self.number(digits))):
                    clue = ("ahead", (number,), (None,))
                    self.assertTrue(clue_text(clue) == f"{sign}{digits} ahead empty", many)
                    self.assertTrue(read_clue([ORDERS], f"{sign}{digits} ahead empty") == clue, many)
                    tree = (0, "up first", [(number, None)], None)
                    self.assertTrue(read_tree([ORDERS], tree_text(tree)) == tree, many)
                    self.assertTrue(f"\n{sign}{digits}:\n" in tree_text(tree), many)


if __name__ == "__main__":
    unittest.main()
