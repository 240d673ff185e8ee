"""What several tests need: things of all kinds, rules made by chance, and a second opinion."""

import itertools

ORDERS = ("up first", "up last", "down first", "down last")
SCHEMA = [("up first", "up last"), ("down last",), ORDERS]

# None of these is a schema, a row, a step or a tuple of four.
ODD = [True, False, 0, 1, -1, 10 ** 30, "", "up first", "alike", (), ((),), [()], [[]], [None], (None,),
       [True], [1], ["up first"], ("up first",), [["up first"]], [[("up first",)]], [("up first", None)],
       [("up first",), None], [("up first",), "up first"], (("up first",),), [(("up first",),)]]

NO_SCHEMAS = ODD + [
    None, [], [("up first",)] * 7, [("up",)], [("Up first",)], [("up  first",)], [("up first ",)], [("",)],
    [("up first", "up first")], [("up first", "down last", "up first")], [("up first", True)], [(True,)],
    [(None,)], [ORDERS + ("up first",)], [ORDERS + ("left first",)], [ORDERS, ()], [list(ORDERS)],
    [ORDERS, list(ORDERS)], [("up first", ["up last"])], [("up first", ("up last",))], [0, 1], [1, ("up first",)]]


def lists_in(thing):
    """All lists within thing, itself too, as often as they stand there."""
    if isinstance(thing, dict):
        thing = [list(pair) for pair in thing.items()]
    if not isinstance(thing, (list, tuple)):
        return []
    inner = [found for part in thing for found in lists_in(part)]
    return [thing] + inner if isinstance(thing, list) else inner


def share_a_list(one, other):
    """Whether some list stands in both."""
    marks = {id(found) for found in lists_in(one)}
    return any(id(found) in marks for found in lists_in(other))


def repeats_a_list(thing):
    """Whether some list stands twice in thing."""
    marks = [id(found) for found in lists_in(thing)]
    return len(marks) != len(set(marks))


def place(order, value):
    """Where a value stands by an order: the lesser place is ahead."""
    if value is None:
        return (0 if order in ("up first", "down first") else 2, 0)
    return (1, value if order in ("up first", "up last") else -value)


def opinion(rule, x, y):
    """What compare must return, told in another way."""
    if rule is None or rule == []:
        return 0
    if isinstance(rule, list):
        (column, order), rest = rule[0], rule[1:]
    else:
        column, order, branches, other = rule
        rest = dict(branches).get(x[column], other)
    one, two = place(order, x[column]), place(order, y[column])
    if one == two:
        return opinion(rest, x, y)
    return -1 if one < two else 1


def all_rows(schema, values):
    """All rows that have only these values."""
    return list(itertools.product(values, repeat=len(schema)))


def same_results(one, other, rows):
    """Whether two rules give the same results for all pairs of these rows."""
    return all(opinion(one, x, y) == opinion(other, x, y) for x in rows for y in rows)


def is_plain(tree):
    """Whether a tree is plain, word by word."""
    if tree is None:
        return True
    _, _, branches, other = tree
    values = [value for value, _ in branches]
    numbers = [value for value in values if value is not None]
    in_order = numbers == sorted(numbers) and None not in values[1:]
    return in_order and is_plain(other) and all(is_plain(below) and below != other for _, below in branches)


def chance_schema(chance, most):
    """A schema with at most so many columns."""
    return [tuple(chance.sample(ORDERS, chance.randint(1, 4))) for _ in range(chance.randint(1, most))]


def chance_flat(chance, schema):
    """A flat rule of the schema."""
    columns = chance.sample(range(len(schema)), chance.randint(0, len(schema)))
    return [(column, chance.choice(schema[column])) for column in columns]


def chance_tree(chance, schema, values, above=()):
    """A tree of the schema, with branches for some of the values."""
    free = [column for column in range(len(schema)) if column not in above]
    if not free or chance.random() < 0.2:
        return None
    column = chance.choice(free)
    here = above + (column,)
    chosen = chance.sample(values, chance.choice([0, 0, 1, 2, len(values)]))
    branches = [(value, chance_tree(chance, schema, values, here)) for value in chosen]
    return (column, chance.choice(schema[column]), branches, chance_tree(chance, schema, values, here))


def wide_tree(columns, width, fewest=0):
    """A tree over these columns, first to last, with the order "up first" and so many branches each."""
    if not columns:
        return None
    branches = [(value, wide_tree(columns[1:], width, fewest)) for value in range(fewest + width, fewest, -1)]
    return (columns[0], "up first", branches, None)


def tuples_of_four(tree):
    """How many tuples of four are in a tree."""
    if tree is None:
        return 0
    return 1 + tuples_of_four(tree[3]) + sum(tuples_of_four(below) for _, below in tree[2])
