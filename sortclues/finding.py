"""A rule that explains clues, or a knot: clues of which it can be seen that no rule explains them.

Where a function below takes numbers, it means the clues with these numbers; steps are those that count.
"""

from sortclues.clues import check_clues, is_against_any, is_ascending, silent_numbers
from sortclues.rules import ascending
from sortclues.schemas import all_steps, check_columns


def find(schema, clues, *, branching=(), without=()):
    """Return ("rule", a rule that explains the clues) or ("knot", numbers)."""
    check_question(schema, clues, branching, without)
    return rule_or_knot(schema, clues, branching, without)


def is_knot(schema, clues, numbers, *, branching=(), without=()):
    """Tell whether numbers, which may be anything, is a knot."""
    check_question(schema, clues, branching, without)
    if not is_ascending(clues, numbers) or not has_ahead(clues, numbers):
        return False
    return parting_step(steps_without(schema, without), clues, numbers, branching) is None


def groups(schema, clues, *, branching=(), without=()):
    """List the longest lists of numbers of clues that no step can part, by their first numbers."""
    check_question(schema, clues, branching, without)
    numbers = list(range(len(clues)))
    parts = last_parts(steps_without(schema, without), clues, numbers, branching)
    # No number is in two parts, so the first numbers are different.
    by_first = {part[0]: part for part in parts}
    return [by_first[first] for first in sorted([int(number) for number in by_first])]


def check_question(schema, clues, branching, without):
    """Raise NoSchema, NoClues or NoColumns if one of the arguments is not as told."""
    check_clues(schema, clues)
    check_columns(schema, branching)
    check_columns(schema, without)


def steps_without(schema, without):
    """List the steps that count: all but those of the columns of without."""
    return [step for step in all_steps(schema) if step[0] not in without]


def rule_or_knot(schema, clues, branching, without):
    """Do what find does, with arguments that are known to be right."""
    return rule_or_knot_of(steps_without(schema, without), clues, list(range(len(clues))), branching)


def rule_or_knot_of(steps, clues, numbers, branching):
    """Find a rule of the kind that branching means that explains these clues, or a knot among them."""
    word, found = tree_or_knot(steps, clues, numbers, branching)
    if word == "rule" and branching == ():
        return ("rule", flat_of(found))
    return (word, found)


def flat_of(tree):
    """Write a tree without branches as a flat rule."""
    flat = []
    while tree is not None:
        column, order, _, tree = tree
        flat.append((column, order))
    return flat


def tree_or_knot(steps, clues, numbers, branching):
    """Find a tree that explains these clues, or a knot among them."""
    if not has_ahead(clues, numbers):
        return ("rule", None)
    step = parting_step(steps, clues, numbers, branching)
    if step is None:
        return ("knot", list(numbers))
    left = silent_numbers(step, clues, numbers)
    if step[0] in branching:
        return branches_or_knot(step, steps, clues, left, branching)
    word, found = tree_or_knot(steps, clues, left, branching)
    if word == "knot":
        return ("knot", found)
    return ("rule", (step[0], step[1], [], found))


def branches_or_knot(step, steps, clues, left, branching):
    """Find a tree that begins with the step and branches there for the clues that it leaves, or a knot."""
    parts = parts_by_value(step[0], clues, left)
    branches = []
    for value in ascending(list(parts)):
        word, found = tree_or_knot(steps, clues, parts[value], branching)
        if word == "knot":
            return ("knot", found)
        # For a value without a branch the tree says alike, as None does.
        if found is not None:
            branches.append((value, found))
    return ("rule", (step[0], step[1], branches, None))


def last_parts(steps, clues, numbers, branching):
    """List what stays together when steps part these clues as long as any can."""
    if numbers == []:
        return []
    step = parting_step(steps, clues, numbers, branching)
    if step is None:
        return [numbers]
    left = silent_numbers(step, clues, numbers)
    if step[0] not in branching:
        return last_parts(steps, clues, left, branching)
    parts = parts_by_value(step[0], clues, left)
    return [last for value in parts for last in last_parts(steps, clues, parts[value], branching)]


def has_ahead(clues, numbers):
    """Tell whether one of these clues has the word "ahead"."""
    return any([clues[number][0] == "ahead" for number in numbers])


def parting_step(steps, clues, numbers, branching):
    """Find the first step that can part these clues, or None if none can."""
    for step in steps:
        if can_part(step, clues, numbers, branching):
            return step
    return None


def can_part(step, clues, numbers, branching):
    """Tell whether the step can part these clues."""
    if is_against_any(step, clues, numbers):
        return False
    column = step[0]
    if column in branching:
        return len({row[column] for number in numbers for row in clues[number][1:]}) > 1
    return len(silent_numbers(step, clues, numbers)) < len(numbers)


def parts_by_value(column, clues, left):
    """Part clues, each with one value in the column for both of its rows, by this value."""
    parts = {}
    for number in left:
        parts.setdefault(clues[number][1][column], []).append(number)
    return parts
