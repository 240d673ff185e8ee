"""All flat rules that explain clues: each of them, how many, what parts two, and clues that leave just one.

A set of columns is a whole number here: a column is in it if the binary digit at the column's place is 1.
"""

from sortclues.clues import check_clues, stance_on
from sortclues.rules import check_flat, lead, parting
from sortclues.schemas import all_steps


def all_rules(schema, clues):
    """Yield all flat rules that explain the clues, each one ahead of those that it begins."""
    check_clues(schema, clues)
    ends = explaining_sets(schema, clues)
    following = following_steps(schema, clues)
    # If there is a rule at all, each beginning below can be continued to one, so the next one comes soon.
    beginnings = [((), 0)] if rules_beyond(ends, following)[0] > 0 else []
    while beginnings != []:
        beginning, taken = beginnings.pop()
        if ends[taken]:
            yield list(beginning)
        # The last one is taken first, so they are put there from the last to the first.
        for step in following[taken][::-1]:
            beginnings.append((beginning + (step,), taken | (1 << step[0])))


def how_many(schema, clues):
    """Return how many flat rules explain the clues."""
    check_clues(schema, clues)
    return rules_beyond(explaining_sets(schema, clues), following_steps(schema, clues))[0]


def columns_apart(clue):
    """Return the set of the columns in which the rows of the clue have different values."""
    _, x, y = clue
    return sum([1 << column for column in range(len(x)) if x[column] != y[column]])


def explaining_sets(schema, clues):
    """List for each set of columns whether its steps, if against no open clue, leave no clue "ahead" open.

    Such steps leave open just the clues whose rows are the same in all of these columns. So what holds
    behind them depends on the set alone, not on the steps or on their order.
    """
    aparts = [columns_apart(clue) for clue in clues if clue[0] == "ahead"]
    return [all([apart & taken for apart in aparts]) for taken in range(1 << len(schema))]


def following_steps(schema, clues):
    """List for each set of columns the steps of others that are against no clue that is open behind it."""
    steps = all_steps(schema)
    against = {step: [columns_apart(clue) for clue in clues if stance_on(step, clue) == "against"] for step in steps}
    return [[step for step in steps if can_follow(step, against[step], taken)] for taken in range(1 << len(schema))]


def can_follow(step, against, taken):
    """Tell whether the step's column is not taken and all that the step is against is closed by those taken."""
    return not taken & (1 << step[0]) and all([apart & taken for apart in against])


def rules_beyond(ends, following):
    """List for each set of columns how many rules that explain have the same steps of this set ahead."""
    counts = [0] * len(ends)
    for taken in reversed(range(len(ends))):
        longer = sum([counts[taken | (1 << step[0])] for step in following[taken]])
        counts[taken] = longer + 1 if ends[taken] else longer
    return counts


def question(schema, clues):
    """Return two rows and two flat rules that explain the clues and differ for the rows, or None."""
    check_clues(schema, clues)
    found = []
    for flat in all_rules(schema, clues):
        found.append(flat)
        if len(found) == 2:
            x, y = parting(schema, found[0], found[1])
            return (x, y, found[0], found[1])
    return None


def teach(schema, flat):
    """List clues that the flat rule explains and no other flat rule does."""
    check_flat(schema, flat)
    columns = [step[0] for step in flat]
    unused = [column for column in range(len(schema)) if column not in columns]
    shown = [clue for step in flat for clue in step_clues(schema, step)]
    placed = [place_clue(schema, flat[at], flat[at + 1]) for at in range(len(flat) - 1)]
    return shown + placed + [clue_with(schema, "alike", {column: (0, 1)}) for column in unused]


def step_clues(schema, step):
    """List clues that ask for a step of this column, and for just this order."""
    column, order = step
    empty_pair = (None, 0) if order.endswith("first") else (0, None)
    return [clue_with(schema, "ahead", {column: pair}) for pair in (lead(order), empty_pair)]


def place_clue(schema, step, later):
    """Return a clue that asks for the step ahead of the later one, where both are asked for."""
    ahead, behind = lead(later[1])
    return clue_with(schema, "ahead", {step[0]: lead(step[1]), later[0]: (behind, ahead)})


def clue_with(schema, word, pairs):
    """Return a clue whose rows have these pairs of values in these columns, and 0 in the others."""
    both = [pairs.get(column, (0, 0)) for column in range(len(schema))]
    return (word, tuple([pair[0] for pair in both]), tuple([pair[1] for pair in both]))
