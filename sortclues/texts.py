"""Rules and clues as texts: they are written in just one way, and only what is so written is read."""

from sortclues.clues import WORDS
from sortclues.errors import NoText
from sortclues.schemas import all_steps, check_schema

# Python itself reads and writes no number with many more digits than a text may have, so it is done part by part.
DIGITS = 60


def flat_text(flat):
    """Write a flat rule."""
    return ", ".join([step_text(step) for step in flat])


def step_text(step):
    """Write a step."""
    return f"{step[0]} {step[1]}"


def tree_text(tree):
    """Write a tree."""
    return "\n".join(tree_lines(tree, ""))


def tree_lines(tree, indent):
    """List the lines of a tree, each with the indent ahead of it."""
    if tree is None:
        return [f"{indent}alike"]
    column, order, branches, other = tree
    deeper = f"{indent}  "
    lines = [f"{indent}{step_text((column, order))}"]
    for value, below in branches:
        lines.append(f"{indent}{value_text(value)}:")
        lines.extend(tree_lines(below, deeper))
    return lines + [f"{indent}else:"] + tree_lines(other, deeper)


def clue_text(clue):
    """Write a clue."""
    word, x, y = clue
    return " ".join([value_text(value) for value in x] + [word] + [value_text(value) for value in y])


def clues_text(clues):
    """Write clues, each on a line."""
    return "\n".join([clue_text(clue) for clue in clues])


def value_text(value):
    """Write a value."""
    if value is None:
        return "empty"
    return f"-{digits_of(-value)}" if value < 0 else digits_of(value)


def digits_of(number):
    """Write a whole number from 0 on."""
    parts = []
    while number >= 10 ** 60:
        number, part = divmod(number, 10 ** 60)
        parts.append(str(part).zfill(DIGITS))
    return "".join([str(number)] + parts[::-1])


def read_flat(schema, text):
    """Read a flat rule."""
    steps = steps_by_text(schema)
    words = [] if text == "" else text.split(", ")
    if not all([word in steps for word in words]):
        raise NoText(1)
    flat = [steps[word] for word in words]
    if len({step[0] for step in flat}) < len(flat):
        raise NoText(1)
    return flat


def steps_by_text(schema):
    """Return a dict of the texts of all steps to the steps."""
    return {step_text(step): step for step in all_steps(schema)}


def read_tree(schema, text):
    """Read a tree."""
    steps = steps_by_text(schema)
    lines = lines_of(text)
    tree, end = tree_from(steps, lines, 0, ())
    if end < len(lines):
        raise NoText(end + 1)
    return tree


def lines_of(text):
    """List the lines of a text; the empty one has none."""
    return [] if text == "" else text.split("\n")


def tree_from(steps, lines, at, above):
    """Read the tree that begins at a line, below steps of the columns above; return it and where it ends."""
    line = line_behind_indent(lines, at, len(above))
    if line == "alike":
        return (None, at + 1)
    if line not in steps or steps[line][0] in above:
        raise NoText(at + 1)
    column, order = steps[line]
    branches, behind = branches_from(steps, lines, at + 1, above + (column,))
    other, end = tree_from(steps, lines, behind, above + (column,))
    return ((column, order, branches, other), end)


def branches_from(steps, lines, at, above):
    """Read the branches that begin at a line, and the line that ends them; return them and what comes next."""
    branches = []
    # A value is written in one way only, so its line tells it.
    used = set()
    line = line_behind_indent(lines, at, len(above) - 1)
    while line != "else:":
        if not line.endswith(":") or not is_value_text(line[:-1]) or line in used:
            raise NoText(at + 1)
        used.add(line)
        below, at = tree_from(steps, lines, at + 1, above)
        branches.append((value_from(line[:-1]), below))
        line = line_behind_indent(lines, at, len(above) - 1)
    return (branches, at + 1)


def line_behind_indent(lines, at, depth):
    """Return a line without its indent; the empty string, which can stand nowhere, if it has none or is none."""
    indent = "  " * depth
    if at == len(lines) or not lines[at].startswith(indent):
        return ""
    return lines[at][len(indent):]


def read_clue(schema, text):
    """Read a clue."""
    check_schema(schema)
    return clue_from(schema, text, 1)


def read_clues(schema, text):
    """Read clues, each on a line."""
    check_schema(schema)
    return [clue_from(schema, line, number) for number, line in enumerate(lines_of(text), start=1)]


def clue_from(schema, line, number):
    """Read a clue from the line with this number."""
    width = len(schema)
    parts = line.split(" ")
    word = " ".join(parts[width:-width])
    if word not in WORDS or not all([is_value_text(part) for part in parts[:width] + parts[-width:]]):
        raise NoText(number)
    return (word, row_from(parts[:width]), row_from(parts[-width:]))


def row_from(parts):
    """Read a row from the texts of its values, which are known to be right."""
    return tuple([value_from(part) for part in parts])


def is_value_text(text):
    """Tell whether a value is written so."""
    digits = text[1:] if text.startswith("-") else text
    if not digits.isascii() or not digits.isdigit():
        return text == "empty"
    return text == "0" or not digits.startswith("0")


def value_from(text):
    """Read the text of a value, which is known to be one."""
    if text == "empty":
        return None
    return -number_from(text[1:]) if text.startswith("-") else number_from(text)


def number_from(digits):
    """Read a whole number from 0 on."""
    first = len(digits) % DIGITS
    number = int("0" + digits[:first])
    for at in range(first, len(digits), DIGITS):
        number = number * 10 ** 60 + int(digits[at:at + DIGITS])
    return number
