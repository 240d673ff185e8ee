"""Rules, flat ones and trees: how they compare rows, and where two of them part."""

from sortclues.errors import NoRule
from sortclues.schemas import check_row, check_schema, is_step, is_value


def is_flat(schema, thing):
    """Tell whether thing is a flat rule of the schema."""
    check_schema(schema)
    if not isinstance(thing, list):
        return False
    if not all([is_step(schema, step) for step in thing]):
        return False
    return len({step[0] for step in thing}) == len(thing)


def is_tree(schema, thing):
    """Tell whether thing is a tree of the schema."""
    check_schema(schema)
    return is_tree_below(schema, thing, ())


def is_tree_below(schema, thing, above):
    """Tell whether thing is a tree that has none of the columns above it."""
    if thing is None:
        return True
    if not isinstance(thing, tuple) or len(thing) != 4:
        return False
    column, order, branches, other = thing
    if not is_step(schema, (column, order)) or column in above:
        return False
    if not has_branches_form(branches):
        return False
    here = above + (column,)
    below = [branch[1] for branch in branches] + [other]
    return all([is_tree_below(schema, part, here) for part in below])


def has_branches_form(thing):
    """Tell whether thing is a list of tuples of two, with different values ahead."""
    if not isinstance(thing, list):
        return False
    if not all([isinstance(branch, tuple) and len(branch) == 2 and is_value(branch[0]) for branch in thing]):
        return False
    return len({branch[0] for branch in thing}) == len(thing)


def check_flat(schema, flat):
    """Raise NoRule unless flat is a flat rule of the schema."""
    if not is_flat(schema, flat):
        raise NoRule("not a flat rule of the schema")


def check_tree(schema, tree):
    """Raise NoRule unless tree is a tree of the schema."""
    if not is_tree(schema, tree):
        raise NoRule("not a tree of the schema")


def is_rule(schema, thing):
    """Tell whether thing is a flat rule or a tree of the schema."""
    return is_flat(schema, thing) or is_tree(schema, thing)


def check_rule(schema, rule):
    """Raise NoRule unless rule is a flat rule or a tree of the schema."""
    if not is_rule(schema, rule):
        raise NoRule("not a rule of the schema")


def compare(schema, rule, x, y):
    """Return -1 if the rule says that x is ahead of y, 1 if y of x, 0 if they are alike."""
    check_rule(schema, rule)
    check_row(schema, x)
    check_row(schema, y)
    return rule_says(rule, x, y)


def rule_says(rule, x, y):
    """Compare two rows by a rule, all of which are known to be right."""
    if isinstance(rule, list):
        return flat_says(rule, x, y)
    return tree_says(rule, x, y)


def flat_says(flat, x, y):
    """Compare two rows by a flat rule."""
    for column, order in flat:
        if x[column] != y[column]:
            return order_says(order, x[column], y[column])
    return 0


def tree_says(tree, x, y):
    """Compare two rows by a tree."""
    if tree is None:
        return 0
    column = tree[0]
    if x[column] != y[column]:
        return order_says(tree[1], x[column], y[column])
    return tree_says(tree_for(tree, x[column]), x, y)


def tree_for(tree, value):
    """Find the tree that compares two rows which both have this value in the tree's column."""
    for at, below in tree[2]:
        if at == value:
            return below
    return tree[3]


def order_says(order, one, other):
    """Return -1 if one is ahead of other by the order, else 1; the two values are different."""
    if one is None or other is None:
        is_ahead = (one is None) == order.endswith("first")
    else:
        is_ahead = (one < other) == order.startswith("up")
    return -1 if is_ahead else 1


def tree_of(schema, flat):
    """Return the tree without branches that compares as the flat rule does."""
    check_flat(schema, flat)
    return flat_as_tree(flat)


def flat_as_tree(flat):
    """Write a flat rule as a tree, from its last step to its first."""
    tree = None
    for column, order in flat[::-1]:
        tree = (column, order, [], tree)
    return tree


def plain(schema, tree):
    """Return the plain tree that compares all rows as the tree does."""
    check_tree(schema, tree)
    return plain_tree(tree)


def plain_tree(tree):
    """Make a tree plain, with lists of its own."""
    if tree is None:
        return None
    column, order, branches, other = tree
    rest = plain_tree(other)
    plains = {value: plain_tree(below) for value, below in branches}
    needed = ascending([value for value in plains if plains[value] != rest])
    return (column, order, [(value, plains[value]) for value in needed], rest)


def ascending(values):
    """List different values in ascending order, the empty one first."""
    empty = [value for value in values if value is None]
    # The values are whole numbers; int(..) shows that no own class is sorted here (L5).
    return empty + sorted([int(value) for value in values if value is not None])


def parting(schema, one, other):
    """Return two rows for which the rules give different results, or None if there are none."""
    check_rule(schema, one)
    check_rule(schema, other)
    first = plain_rule(one)
    second = plain_rule(other)
    if first == second:
        return None
    common = [0] * len(schema)
    while begin_alike(first, second):
        value = parting_value(first, second)
        common[first[0]] = value
        first = tree_for(first, value)
        second = tree_for(second, value)
    return rows_apart(first, second, common)


def plain_rule(rule):
    """Return the plain tree of a flat rule or of a tree."""
    if isinstance(rule, list):
        return flat_as_tree(rule)
    return plain_tree(rule)


def begin_alike(first, second):
    """Tell whether both trees begin with the same step."""
    if first is None or second is None:
        return False
    return first[0] == second[0] and first[1] == second[1]


def parting_value(first, second):
    """Find a value for which two different plain trees with the same step go on differently."""
    values = [branch[0] for branch in first[2] + second[2]]
    if first[3] != second[3]:
        return unused_number(values)
    # Dicts, as both lists of branches may be long.
    ones = {value: below for value, below in first[2]}
    twos = {value: below for value, below in second[2]}
    # The trees are different but for other values the same, so at least one value is left.
    return [value for value in values if ones.get(value, first[3]) != twos.get(value, second[3])][0]


def unused_number(values):
    """Find the least whole number from 0 that is none of the values."""
    used = set(values)
    number = 0
    while number in used:
        number += 1
    return number


def rows_apart(first, second, common):
    """Return two rows for which two trees that do not begin alike give different results.

    The rows have the common values, but for the columns with which the trees begin.
    """
    x = list(common)
    y = list(common)
    if first is not None:
        x[first[0]], y[first[0]] = lead(first[1])
    if second is not None:
        y[second[0]], x[second[0]] = lead(second[1])
    if first is not None and second is not None and first[0] == second[0]:
        column = first[0]
        x[column], y[column] = values_apart(first[1], second[1])
    return (tuple(x), tuple(y))


def lead(order):
    """Return two whole numbers of which the order puts the first one ahead."""
    return (0, 1) if order.startswith("up") else (1, 0)


def values_apart(order, contrary):
    """Return two values that two different orders put in different order."""
    return (None, 0) if lead(order) == lead(contrary) else (0, 1)
