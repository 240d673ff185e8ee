"""Point 21: texts that are none, and the line that cannot stand there."""

import random
import re
import unittest

from samples import NO_SCHEMAS, ORDERS, chance_flat, chance_schema, chance_tree
from search import chance_clues

from sortclues.errors import NoSchema, NoText
from sortclues.texts import clue_text, clues_text, flat_text, read_clue, read_clues, read_flat, read_tree, tree_text

SCHEMA = [("up first", "up last"), ("down last",), ORDERS]
VALUE = re.compile(r"empty|0|-?[1-9][0-9]*")
NO_VALUES = ["", "-", "+5", "-0", "05", "00", "-05", "+0", "5.", "5.0", "1e3", "0x1", "1_0", "--5", "5-", "Empty",
             "empt", "empty0", "-empty", "None", "True", "five", "5,", "(5", "!", "~"]


def right_steps(schema):
    """The texts of all steps, with their columns."""
    return {f"{column} {order}": column for column, orders in enumerate(schema) for order in orders}


def wrong_tree_line(schema, text):
    """The first line that cannot stand there, from the lines that can stand next: None if the text is a tree's."""
    lines = text.split("\n") if text else []
    steps = right_steps(schema)
    # What is expected next: a tree at a depth below some columns, or the next branch of such a tree.
    expected = [("tree", 0, (), None)]
    for number, line in enumerate(lines, start=1):
        if not expected:
            return number
        kind, depth, above, values = expected.pop()
        rest = line.removeprefix("  " * depth)
        if len(rest) != len(line) - 2 * depth:
            return number
        if kind == "tree":
            if rest == "alike":
                continue
            if steps.get(rest, above[:1]) in (above[:1], *above):
                return number
            expected.append(("branch", depth, above + (steps[rest],), []))
        elif rest == "else:":
            expected.append(("tree", depth + 1, above, None))
        elif rest[-1:] == ":" and VALUE.fullmatch(rest[:-1]) and rest not in values:
            expected.append(("branch", depth, above, values + [rest]))
            expected.append(("tree", depth + 1, above, None))
        else:
            return number
    return len(lines) + 1 if expected else None


def is_clue_text(schema, text):
    """Whether a text is that of a clue."""
    value = f"(?:{VALUE.pattern})"
    row = " ".join([value] * len(schema))
    return re.fullmatch(f"{row} (ahead|not behind|alike) {row}", text) is not None


def wrong_clues_line(schema, text):
    """The first line that is no clue's text: None if there is none."""
    lines = text.split("\n") if text else []
    return next((number for number, line in enumerate(lines, start=1) if not is_clue_text(schema, line)), None)


def is_flat_text(schema, text):
    """Whether a text is that of a flat rule."""
    columns = [right_steps(schema).get(part) for part in text.split(", ")] if text else []
    return None not in columns and len(set(columns)) == len(columns)


def spoiled(chance, text):
    """A text with one change or several, often small ones."""
    for _ in range(chance.choice([1, 1, 2, 3])):
        at = chance.randint(0, len(text))
        kind = chance.randrange(9)
        lines = text.split("\n")
        place = chance.randrange(len(lines))
        if kind == 0:
            text = text[:at] + chance.choice(" :,\n-+0123456789aelu~") + text[at:]
        elif kind == 1:
            text = text[:at] + text[at + 1:]
        elif kind == 2:
            text = text[:at]
        elif kind == 3:
            text = "\n".join(lines[:place] + lines[place + 1:])
        elif kind == 4:
            text = "\n".join(lines[:place + 1] + lines[place:])
        elif kind == 5:
            lines[place] = chance.choice(["  ", " "]) + lines[place]
            text = "\n".join(lines)
        elif kind == 6:
            lines[place] = lines[place].removeprefix("  ")
            text = "\n".join(lines)
        elif kind == 7:
            other = chance.randrange(len(lines))
            lines[place], lines[other] = lines[other], lines[place]
            text = "\n".join(lines)
        else:
            old = chance.choice(["first", "5", "0", "alike", " "])
            text = text.replace(old, chance.choice(["last", "7", "", "else:"]), 1)
    return text


class Base(unittest.TestCase):
    def refused(self, line, read, schema, text):
        """The text is refused, with the number of this line."""
        with self.assertRaises(NoText) as caught:
            read(schema, text)
        self.assertIs(type(caught.exception), NoText)
        self.assertEqual((caught.exception.line, type(caught.exception.line)), (line, int), text)


class NoFlat(Base):
    def test_no_flat_rule(self):
        for text in ["0", "up first", "0up first", "0  up first", " 0 up first", "0 up first ", "0 up first,",
                     "0 up first, ", ", 0 up first", ",", ", ", " ", "\n", "0 up first\n", "\n0 up first",
                     "0 up first\n1 down last", "0 up first,1 down last", "0 up first,  1 down last",
                     "0 up first , 1 down last", "0 up first, 1 down last, ", "0 up first 1 down last",
                     "0 up first, 0 up first", "0 up first, 0 up last", "0 up first, 1 down last, 0 up first",
                     "0 down last", "1 up first", "3 up first", "-1 up first", "-0 up first", "00 up first",
                     "+0 up first", "01 down last", "0 Up first", "0 upfirst", "0 up  first", "0 up", "0 up middle",
                     "empty up first", "alike", "else:", "[]", "0 up first; 1 down last", "0 up first, alike",
                     "0 ahead 0"]:
            self.refused(1, read_flat, SCHEMA, text)

    def test_spoiled_texts(self):
        chance = random.Random(111)
        read = 0
        for _ in range(800):
            schema = chance_schema(chance, 6)
            text = spoiled(chance, flat_text(chance_flat(chance, schema)))
            if is_flat_text(schema, text):
                self.assertEqual(flat_text(read_flat(schema, text)), text)
                read += 1
            else:
                self.refused(1, read_flat, schema, text)
        self.assertGreater(read, 20)


class NoTree(Base):
    TEXT = "0 up last\n5:\n  1 down last\n  empty:\n    alike\n  else:\n    alike\n-3:\n  alike\nelse:\n  2 up last\n" \
           "  else:\n    alike"

    def changed(self, number, *lines):
        """The text with these lines instead of the one with this number."""
        before = self.TEXT.split("\n")
        return "\n".join(before[:number - 1] + list(lines) + before[number:])

    def test_the_text_itself(self):
        self.assertEqual(read_tree(SCHEMA, self.TEXT), (0, "up last", [(5, (1, "down last", [(None, None)], None)),
                                                                       (-3, None)], (2, "up last", [], None)))

    def test_a_text_that_ends_too_early(self):
        lines = self.TEXT.split("\n")
        for many in range(len(lines)):
            self.refused(many + 1, read_tree, SCHEMA, "\n".join(lines[:many]))
        self.refused(1, read_tree, SCHEMA, "")

    def test_more_behind_the_end(self):
        for text in (self.TEXT, "alike", "1 down last\nelse:\n  alike"):
            number = len(text.split("\n")) + 1
            for more in ("", "alike", "else:", "  alike", "0 up last", "5:", " ", "\n", "\nalike"):
                self.refused(number, read_tree, SCHEMA, f"{text}\n{more}")

    def test_an_empty_line(self):
        for number in range(1, 15):
            lines = self.TEXT.split("\n")
            self.refused(number, read_tree, SCHEMA, "\n".join(lines[:number - 1] + [""] + lines[number - 1:]))
        self.refused(1, read_tree, SCHEMA, "\n")
        self.refused(1, read_tree, SCHEMA, "\n" + self.TEXT)

    def test_a_missing_and_a_doubled_line(self):
        for number in range(1, 14):
            line = self.TEXT.split("\n")[number - 1]
            self.refused(number, read_tree, SCHEMA, self.changed(number))
            self.refused(number + 1, read_tree, SCHEMA, self.changed(number, line, line))

    def test_wrong_indentation(self):
        for number in range(1, 14):
            line = self.TEXT.split("\n")[number - 1]
            for wrong in (f" {line}", f"  {line}", f"{line} ", f"    {line}"):
                self.refused(number, read_tree, SCHEMA, self.changed(number, wrong))
            if line.startswith("  "):
                for wrong in (line[1:], line[2:]):
                    self.refused(number, read_tree, SCHEMA, self.changed(number, wrong))

    def test_steps_that_cannot_stand(self):
        for step in ("0 up last", "0 up first", "1 up first", "3 up first", "1 down  last", "1  down last",
                     "01 down last", "-1 down last", "+1 down last", "1 down last,", "1 down last, 2 up last", "1",
                     "down last", "else:", "5:", "empty", "Alike", "alike:", "None"):
            self.refused(3, read_tree, SCHEMA, self.changed(3, f"  {step}"))
        self.refused(1, read_tree, SCHEMA, self.changed(1, "0 down last"))
        self.assertEqual(read_tree(SCHEMA, self.changed(3, "  2 down last"))[2][0][1][0], 2)

    def test_columns_that_are_taken_above(self):
        text = "0 up last\nelse:\n  1 down last\n  7:\n    {}\n    else:\n      alike\n  else:\n    alike"
        self.assertIsNotNone(read_tree(SCHEMA, text.format("2 up last")))
        for step in ("0 up last", "0 up first", "1 down last"):
            self.refused(5, read_tree, SCHEMA, text.format(step))
        # Beside each other a column may stand twice.
        self.assertIsNotNone(read_tree(SCHEMA, self.changed(9, "  1 down last", "  else:", "    alike")))

    def test_values_that_cannot_stand(self):
        for value in NO_VALUES + ["5 ", " 5", "5:", "0 up last", "alike"]:
            self.refused(8, read_tree, SCHEMA, self.changed(8, f"{value}:"))
            self.refused(8, read_tree, SCHEMA, self.changed(8, value))
        for value in ("0", "-5", "50", "empty", "9" * 30, "-" + "9" * 30):
            self.assertIsNotNone(read_tree(SCHEMA, self.changed(8, f"{value}:")))

    def test_a_value_twice(self):
        self.refused(8, read_tree, SCHEMA, self.changed(8, "5:"))
        self.refused(4, read_tree, SCHEMA, "0 up last\nempty:\n  alike\nempty:\n  alike\nelse:\n  alike")
        self.refused(6, read_tree, SCHEMA, "0 up last\n0:\n  alike\n1:\n  alike\n0:\n  alike\nelse:\n  alike")
        self.refused(6, read_tree, SCHEMA, self.changed(6, "  empty:", "    alike", "  else:"))
        # In trees below and beside, and behind "else:", the same value may stand again.
        below = "  1 down last\n  5:\n    alike\n  else:\n    alike"
        self.assertIsNotNone(read_tree(SCHEMA, f"0 up last\n5:\n{below}\n6:\n{below}\nelse:\n{below}"))

    def test_the_first_of_two_wrong_lines(self):
        for one in range(1, 14):
            for other in range(one + 1, 14):
                lines = self.TEXT.split("\n")
                lines[one - 1], lines[other - 1] = "wrong", "wrong"
                self.refused(one, read_tree, SCHEMA, "\n".join(lines))

    def test_spoiled_texts(self):
        chance = random.Random(112)
        seen = {}
        for _ in range(3000):
            schema = chance_schema(chance, 4)
            text = tree_text(chance_tree(chance, schema, [None, 0, 5, -12]))
            text = spoiled(chance, text) if chance.random() < 0.9 else text
            line = wrong_tree_line(schema, text)
            if line is None:
                self.assertEqual(tree_text(read_tree(schema, text)), text)
            else:
                self.refused(line, read_tree, schema, text)
            seen[line] = seen.get(line, 0) + 1
        self.assertGreater(len(seen), 12)
        self.assertGreater(seen[None], 200)


class NoClues(Base):
    TEXT = "1 empty -7 not behind 0 0 5\n0 0 0 alike 0 0 0\n1 2 3 ahead 4 5 6"
    WRONG = ["", " ", "1 2 3 4 5 6", "1 2 3 ahead 4 5", "1 2 ahead 4 5 6", "1 2 3 4 ahead 4 5 6", "1 2 3 ahead 4 5 6 7",
             "1 2 ahead 3 4 5 6", "1 2 3 4 ahead 5 6", "ahead", "1 2 3 ahead", "ahead 4 5 6", "1 2 3  ahead 4 5 6",
             "1 2 3 ahead  4 5 6", "1  2 3 ahead 4 5 6", " 1 2 3 ahead 4 5 6", "1 2 3 ahead 4 5 6 ",
             "1 2 3 behind 4 5 6",
             "1 2 3 Ahead 4 5 6", "1 2 3 not 4 5 6", "1 2 3 not  behind 4 5 6", "1 2 3 notbehind 4 5 6",
             "1 2 3 not not behind 4 5 6", "1 2 3 not ahead 4 5 6", "1 2 3 empty 4 5 6", "1 2 3 ahead ahead 4 5 6",
             "1 2 3 ahead alike 5 6", "1 2 3, ahead 4 5 6", "1,2,3 ahead 4,5,6", "1 2 3 equal 4 5 6", "1 2 3 = 4 5 6",
             "1 2 3 -1 4 5 6", "1 2 3 not behind ahead 4 5 6", "1 2 3 ahead 4 5 6,"]

    def test_the_text_itself(self):
        self.assertEqual(read_clues(SCHEMA, self.TEXT), [
            ("not behind", (1, None, -7), (0, 0, 5)), ("alike", (0,) * 3, (0,) * 3), ("ahead", (1, 2, 3), (4, 5, 6))])

    def test_no_clue(self):
        for text in self.WRONG + ["\n", "1 2 3 ahead 4 5 6\n", "\n1 2 3 ahead 4 5 6", "1 2 3\nahead 4 5 6", self.TEXT]:
            self.refused(1, read_clue, SCHEMA, text)
        for value in NO_VALUES:
            for at in range(7):
                parts = "1 2 3 ahead 4 5 6".split(" ")
                parts[at] = value
                self.refused(1, read_clue, SCHEMA, " ".join(parts))

    def test_a_wrong_line_of_several(self):
        for wrong in self.WRONG + ["alike", "1 2 3 ahead 4 5 06", "-0 2 3 ahead 4 5 6"]:
            for number in (1, 2, 3):
                lines = self.TEXT.split("\n")
                lines[number - 1] = wrong
                self.refused(number, read_clues, SCHEMA, "\n".join(lines))
                self.refused(number, read_clues, SCHEMA, "\n".join(lines + ["wrong", ""]))
                if number < 3:
                    lines[2] = "wrong"
                    self.refused(number, read_clues, SCHEMA, "\n".join(lines))

    def test_an_empty_line(self):
        self.refused(1, read_clues, SCHEMA, "\n")
        self.refused(1, read_clues, SCHEMA, "\n\n")
        self.refused(1, read_clues, SCHEMA, "\n" + self.TEXT)
        self.refused(4, read_clues, SCHEMA, self.TEXT + "\n")
        self.refused(4, read_clues, SCHEMA, self.TEXT + "\n\n")
        self.refused(2, read_clues, SCHEMA, self.TEXT.replace("\n", "\n\n"))

    def test_clues_of_another_schema(self):
        for columns in (1, 2, 4, 5, 6):
            self.refused(1, read_clue, [ORDERS] * columns, "1 2 3 ahead 4 5 6")
            self.refused(1, read_clues, [ORDERS] * columns, self.TEXT)

    def test_spoiled_texts(self):
        chance = random.Random(113)
        seen = {}
        for _ in range(2000):
            schema = chance_schema(chance, 3)
            clues = chance_clues(chance, schema, chance.randint(0, 5), (None, 0, 5, -12))
            text = spoiled(chance, clues_text(clues))
            line = wrong_clues_line(schema, text)
            if line is None:
                self.assertEqual(clues_text(read_clues(schema, text)), text)
            else:
                self.refused(line, read_clues, schema, text)
            if "\n" not in text and is_clue_text(schema, text):
                self.assertEqual(clue_text(read_clue(schema, text)), text)
            else:
                self.refused(1, read_clue, schema, text)
            seen[line] = seen.get(line, 0) + 1
        self.assertGreater(len(seen), 5)
        self.assertGreater(seen[None], 100)


class AnyText(Base):
    def test_a_text_of_another_kind(self):
        texts = {read_flat: "0 up last, 1 down last", read_tree: "0 up last\nelse:\n  alike",
                 read_clue: "1 2 3 alike 0 0 0"}
        for read in (read_flat, read_tree, read_clue, read_clues):
            for other, text in texts.items():
                if read is not other and (read, other) != (read_clues, read_clue):
                    self.refused(1, read, SCHEMA, text)
        self.refused(2, read_tree, SCHEMA, "0 up last")
        self.refused(1, read_flat, SCHEMA, "alike")

    def test_characters_made_by_chance(self):
        chance = random.Random(114)
        for _ in range(300):
            text = "".join(chance.choice("\n !0:-,aempty~") for _ in range(chance.choice([1, 2, 5, 4000])))
            for read in (read_flat, read_clue):
                self.refused(1, read, SCHEMA, text)
            self.refused(1, read_clues, SCHEMA, text)
            self.refused(wrong_tree_line(SCHEMA, text), read_tree, SCHEMA, text)

    def test_no_schema(self):
        for schema in NO_SCHEMAS:
            for read in (read_flat, read_tree, read_clue, read_clues):
                for text in ("", "alike", "wrong", "1 ahead 1"):
                    self.assertRaises(NoSchema, read, schema, text)

    def test_the_same_text_has_the_same_error(self):
        for _ in range(2):
            self.refused(2, read_tree, SCHEMA, "0 up last\nwrong")
            self.assertEqual(read_tree(SCHEMA, "alike"), None)


if __name__ == "__main__":
    unittest.main()
