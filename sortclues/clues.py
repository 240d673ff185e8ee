"""Clues: what is one, which of them a rule does not keep, and what a step does to one."""

from sortclues.errors import NoClue, NoClues
from sortclues.rules import check_rule, order_says, rule_says
from sortclues.schemas import check_schema, check_step, is_number_below, is_row

WORDS = ("ahead", "not behind", "alike")


def is_clue(schema, thing):
    """Tell whether thing is a clue of the schema."""
    check_schema(schema)
    if not isinstance(thing, tuple) or len(thing) != 3:
        return False
    word, x, y = thing
    return word in WORDS and is_row(schema, x) and is_row(schema, y)


def check_clue(schema, clue):
    """Raise NoClue unless clue is a clue of the schema."""
    if not is_clue(schema, clue):
        raise NoClue("not a clue of the schema")


def check_clues(schema, clues):
    """Raise NoClues unless clues is a list of clues of the schema."""
    # An empty list has no clue whose check would look at the schema.
    check_schema(schema)
    if not isinstance(clues, list) or not all([is_clue(schema, clue) for clue in clues]):
        raise NoClues("not a list of clues of the schema")


def broken(schema, rule, clues):
    """List the numbers of the clues that the rule does not keep."""
    check_rule(schema, rule)
    check_clues(schema, clues)
    return [number for number, clue in enumerate(clues) if not keeps(rule, clue)]


def keeps(rule, clue):
    """Tell whether the rule keeps the clue."""
    word, x, y = clue
    said = rule_says(rule, x, y)
    if word == "ahead":
        return said == -1
    if word == "not behind":
        return said != 1
    return said == 0


def stance(schema, step, clue):
    """Tell whether the step is "silent" on the clue, "for" it or "against" it."""
    check_step(schema, step)
    check_clue(schema, clue)
    return stance_on(step, clue)


def stance_on(step, clue):
    """Tell the stance of a step on a clue, both of which are known to be right."""
    column, order = step
    word, x, y = clue
    if x[column] == y[column]:
        return "silent"
    if word != "alike" and order_says(order, x[column], y[column]) == -1:
        return "for"
    return "against"


def is_against_any(step, clues, numbers):
    """Tell whether the step is against one of the clues with these numbers."""
    return any([stance_on(step, clues[number]) == "against" for number in numbers])


def silent_numbers(step, clues, numbers):
    """List those of the numbers on whose clues the step is silent."""
    return [number for number in numbers if stance_on(step, clues[number]) == "silent"]


def is_ascending(clues, thing):
    """Tell whether thing is a list of numbers of the clues, different and ascending."""
    if not isinstance(thing, list):
        return False
    if not all([is_number_below(len(clues), number) for number in thing]):
        return False
    return all([thing[at - 1] < thing[at] for at in range(1, len(thing))])
