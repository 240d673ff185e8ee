"""What clues say: of two rows, of the columns that rules need, and of the steps that they can have."""

from sortclues.clues import check_clues, is_against_any, is_ascending, silent_numbers
from sortclues.errors import Unexplained
from sortclues.finding import flat_of, parting_step, rule_or_knot, steps_without, tree_or_knot
from sortclues.schemas import all_steps, check_columns, check_row, check_step


def says(schema, clues, x, y, *, branching=()):
    """List what find returns if x is ahead of y, too, if they are alike, and if y is ahead of x."""
    check_clues(schema, clues)
    check_row(schema, x)
    check_row(schema, y)
    check_columns(schema, branching)
    check_explained(schema, clues, branching)
    added = [("ahead", x, y), ("alike", x, y), ("ahead", y, x)]
    return [rule_or_knot(schema, clues + [clue], branching, ()) for clue in added]


def needed(schema, clues, *, branching=()):
    """List the columns of which every rule that explains has a step, each with a knot without it."""
    check_clues(schema, clues)
    check_columns(schema, branching)
    check_explained(schema, clues, branching)
    found = [rule_or_knot(schema, clues, branching, (column,)) for column in range(len(schema))]
    return knots_by_column(found)


def must_branch(schema, clues):
    """List the columns at which every tree that explains branches, each with a knot where it may not."""
    check_clues(schema, clues)
    columns = tuple(range(len(schema)))
    check_explained(schema, clues, columns)
    others = [tuple([other for other in columns if other != column]) for column in columns]
    return knots_by_column([rule_or_knot(schema, clues, branching, ()) for branching in others])


def check_explained(schema, clues, branching):
    """Raise Unexplained if no rule explains the clues."""
    if rule_or_knot(schema, clues, branching, ())[0] == "knot":
        raise Unexplained("no rule explains the clues")


def knots_by_column(found):
    """List the columns for which a knot was found, each with the knot."""
    return [(column, answer[1]) for column, answer in enumerate(found) if answer[0] == "knot"]


def usable(schema, clues, step, *, before=()):
    """Return ("rule", one that has the step with none of before ahead of it) or ("bar", numbers)."""
    check_step_question(schema, clues, step, before)
    check_explained(schema, clues, ())
    beginning, left = closed_by(steps_ahead(schema, step, before), clues)
    if is_against_any(step, clues, left):
        return ("bar", left)
    # The clues have a rule, and what is put ahead of it here is against no clue that is open.
    behind = tree_or_knot(all_steps(schema), clues, silent_numbers(step, clues, left), ())[1]
    return ("rule", beginning + [step] + flat_of(behind))


def is_bar(schema, clues, step, numbers, *, before=()):
    """Tell whether numbers, which may be anything, is a bar of the step."""
    check_step_question(schema, clues, step, before)
    if not is_ascending(clues, numbers) or not is_against_any(step, clues, numbers):
        return False
    return parting_step(steps_ahead(schema, step, before), clues, numbers, ()) is None


def check_step_question(schema, clues, step, before):
    """Raise NoSchema, NoClues, NoStep or NoColumns if one of the arguments is not as told."""
    check_clues(schema, clues)
    check_step(schema, step)
    check_columns(schema, before)


def steps_ahead(schema, step, before):
    """List the steps that may stand ahead of the step: those of other columns but for the ones before."""
    return steps_without(schema, before + (step[0],))


def closed_by(steps, clues):
    """Take steps that are against no open clue as long as one closes any; list them, and what stays open."""
    taken = []
    left = list(range(len(clues)))
    step = parting_step(steps, clues, left, ())
    while step is not None:
        taken.append(step)
        left = silent_numbers(step, clues, left)
        step = parting_step(steps, clues, left, ())
    return (taken, left)
