"""The document's words on clues, gone through without skill: what the package finds is held against this."""

import itertools

from samples import opinion, place, tuples_of_four

from sortclues.finding import is_knot
from sortclues.rules import is_flat, is_tree

WORDS = ("ahead", "not behind", "alike")
KEPT = {"ahead": [-1], "not behind": [-1, 0], "alike": [0]}


def explains(rule, clues):
    """Whether a rule keeps each of these clues."""
    return all(opinion(rule, x, y) in KEPT[word] for word, x, y in clues)


def steps_of(schema, without=()):
    """All steps but those of some columns, in their order."""
    return [(column, order) for column, orders in enumerate(schema) if column not in without for order in orders]


def flat_rules(schema, without=()):
    """All flat rules, in the order that point 15 tells: by what they begin with, then by their steps."""
    steps = steps_of(schema, without)
    chosen = [parts for many in range(len(schema) + 1) for parts in itertools.permutations(range(len(steps)), many)]
    flats = [[steps[at] for at in parts] for parts in sorted(chosen)]
    return [flat for flat in flats if len({column for column, _ in flat}) == len(flat)]


def says_of(step, clue):
    """What point 11 calls the stance of a step on a clue."""
    word, x, y = clue
    one, other = place(step[1], x[step[0]]), place(step[1], y[step[0]])
    if one == other:
        return "silent"
    return "for" if word in ("ahead", "not behind") and one < other else "against"


def cannot_part(step, chosen, branching):
    """Whether a step cannot part these clues (point 12)."""
    stances = [says_of(step, clue) for clue in chosen]
    if "against" in stances:
        return True
    if step[0] not in branching:
        return stances == ["silent"] * len(chosen)
    values = [row[step[0]] for _, x, y in chosen for row in (x, y)]
    return values == [values[0]] * len(values)


def none_parts(schema, clues, numbers, branching, without):
    """Whether no step that counts can part the clues with these numbers."""
    chosen = [clues[number] for number in numbers]
    return all(cannot_part(step, chosen, branching) for step in steps_of(schema, without))


def ascending_lists(clues):
    """All lists of numbers of clues, different and ascending, at least one."""
    numbers = range(len(clues))
    return [list(chosen) for many in numbers for chosen in itertools.combinations(numbers, many + 1)]


def is_real_knot(schema, clues, numbers, branching=(), without=()):
    """Whether a list of numbers is a knot (point 12)."""
    if numbers not in ([], sorted(set(numbers))) or not set(numbers) <= set(range(len(clues))):
        return False
    has_ahead = "ahead" in [clues[number][0] for number in numbers]
    return has_ahead and none_parts(schema, clues, numbers, branching, without)


def real_groups(schema, clues, branching=(), without=()):
    """The groups (point 14), from all lists of numbers."""
    found = [chosen for chosen in ascending_lists(clues) if none_parts(schema, clues, chosen, branching, without)]
    return sorted(chosen for chosen in found if not any(set(chosen) < set(other) for other in found))


def has_flat(schema, clues, without=()):
    """Whether a flat rule explains."""
    return any(explains(flat, clues) for flat in flat_rules(schema, without))


def has_tree(schema, clues, branching, without=()):
    """Whether a tree that branches at none but these columns explains: all its beginnings are tried."""
    if explains(None, clues):
        return True
    for column, order in steps_of(schema, without):
        stances = [says_of((column, order), clue) for clue in clues]
        if "against" in stances:
            continue
        left = [clue for clue, told in zip(clues, stances) if told == "silent"]
        values = {x[column] for _, x, _ in left} if column in branching else {None}
        parts = [[clue for clue in left if column not in branching or clue[1][column] == value] for value in values]
        if all(has_tree(schema, part, branching, without + (column,)) for part in parts):
            return True
    return False


def has_rule(schema, clues, branching=(), without=()):
    """Whether one of the rules that are meant explains."""
    return has_tree(schema, clues, branching, without) if branching else has_flat(schema, clues, without)


def fours(tree):
    """All tuples of four in a tree."""
    if tree is None:
        return []
    return [tree] + fours(tree[3]) + [found for _, below in tree[2] for found in fours(below)]


def check_rule(case, schema, clues, rule, branching=(), without=()):
    """The rule is one that is meant, explains the clues, and is as point 13 tells."""
    if branching == ():
        case.assertIs(is_flat(schema, rule), True, rule)
        columns = [column for column, _ in rule]
    else:
        case.assertIs(is_tree(schema, rule), True, rule)
        columns = [four[0] for four in fours(rule)]
        case.assertLessEqual(tuples_of_four(rule), 5 * len(clues) + 1)
        for column, _, branches, other in fours(rule):
            case.assertTrue(other is None if column in branching else branches == [], rule)
    case.assertEqual(set(columns) & set(without), set())
    case.assertTrue(explains(rule, clues), (schema, clues, rule))


def check_knot(case, schema, clues, numbers, branching=(), without=()):
    """The numbers are a knot, by point 12 and by is_knot."""
    case.assertEqual({int}, {type(number) for number in numbers})
    case.assertTrue(is_real_knot(schema, clues, numbers, branching, without), (schema, clues, numbers))
    case.assertIs(is_knot(schema, clues, numbers, branching=branching, without=without), True)


def check_answer(case, schema, clues, answer, branching=(), without=()):
    """What find returned is right; its word is returned."""
    case.assertEqual((type(answer), len(answer)), (tuple, 2))
    word, found = answer
    case.assertIn(word, ("rule", "knot"))
    check = check_rule if word == "rule" else check_knot
    check(case, schema, clues, found, branching, without)
    return word


def chance_columns(chance, schema):
    """Some columns, in any order."""
    return tuple(chance.sample(range(len(schema)), chance.randint(0, len(schema))))


def chance_rows(chance, schema, values):
    """Two rows that are often equal in some columns."""
    x = tuple(chance.choice(values) for _ in schema)
    return x, tuple(value if chance.random() < 0.4 else chance.choice(values) for value in x)


def chance_clues(chance, schema, many, values=(None, 0, 1)):
    """Clues that often contradict each other."""
    return [(chance.choice(WORDS), *chance_rows(chance, schema, values)) for _ in range(many)]


def told_clues(chance, schema, rule, many, values=(None, 0, 1)):
    """Clues that the rule keeps."""
    clues = []
    for _ in range(many):
        x, y = chance_rows(chance, schema, values)
        said = opinion(rule, x, y)
        if said == 0:
            clues.append((chance.choice(["not behind", "alike"]), x, y))
        else:
            pair = (x, y) if said == -1 else (y, x)
            clues.append((chance.choice(["ahead", "not behind"]), *pair))
    return clues
