"""A sorter: it compares and sorts rows by a rule."""

from sortclues.errors import NotAllowed
from sortclues.rules import ascending, check_rule, is_rule, plain_rule, rule_says, tree_for
from sortclues.schemas import ORDERS, check_row, check_rows


class Sorter:
    """Compares and sorts rows of a schema by a rule."""

    def __init__(self, schema, rule):
        check_rule(schema, rule)
        self._schema = list(schema)
        self._rule = rule_with(rule, same_orders())
        # Of all rules that give the same results this one is the same, so it is what sorters are compared by.
        self._plain = plain_rule(rule)

    def __call__(self, x, y):
        """Return -1 if x is ahead of y, 1 if y is ahead of x, 0 if they are alike."""
        check_row(self._schema, x)
        check_row(self._schema, y)
        return rule_says(self._plain, x, y)

    def arranged(self, rows):
        """List the rows in an order in which none is behind one after it; rows that are alike stay in theirs."""
        check_rows(self._schema, rows)
        return arranged_by(self._plain, rows)

    def shown(self, rows):
        """Tell whether none of the rows is behind one after it."""
        check_rows(self._schema, rows)
        # A row that is not behind its neighbour is not behind those that its neighbour is not behind.
        return all([rule_says(self._plain, rows[at - 1], rows[at]) != 1 for at in range(1, len(rows))])

    @property
    def rule(self):
        """The rule, each time in lists of its own."""
        return rule_with(self._rule, same_orders())

    def __eq__(self, other):
        """Tell whether other is a sorter of an equal schema that gives the same results for all rows."""
        return isinstance(other, Sorter) and self._schema == other._schema and self._plain == other._plain

    def __neg__(self):
        """Return the sorter that puts rows the other way about."""
        turned = rule_with(self._rule, contrary_orders())
        if not is_rule(self._schema, turned):
            raise NotAllowed("the schema does not allow an order of the contrary rule")
        return Sorter(self._schema, turned)


def same_orders():
    """Return a dict of each order to itself."""
    return {order: order for order in ORDERS}


def contrary_orders():
    """Return a dict of each order to the one that puts all values the other way about."""
    return {"up first": "down last", "up last": "down first", "down first": "up last", "down last": "up first"}


def rule_with(rule, orders):
    """Write a rule with lists of its own, and for each of its orders the one that the dict tells."""
    if isinstance(rule, list):
        return [(column, orders[order]) for column, order in rule]
    return tree_with(rule, orders)


def tree_with(tree, orders):
    """Do for a tree what rule_with does."""
    if tree is None:
        return None
    column, order, branches, other = tree
    written = [(value, tree_with(below, orders)) for value, below in branches]
    return (column, orders[order], written, tree_with(other, orders))


def arranged_by(tree, rows):
    """Sort rows by a tree: by their values in its column, those with one value by the tree for this value."""
    if tree is None or len(rows) < 2:
        return list(rows)
    parts = {}
    for row in rows:
        parts.setdefault(row[tree[0]], []).append(row)
    return [row for value in in_order(tree[1], list(parts)) for row in arranged_by(tree_for(tree, value), parts[value])]


def in_order(order, values):
    """List different values as the order puts them."""
    empty = [value for value in values if value is None]
    numbers = [value for value in ascending(values) if value is not None]
    if order.startswith("down"):
        numbers = numbers[::-1]
    return empty + numbers if order.endswith("first") else numbers + empty
