"""Schemas, and the rows and steps that belong to them."""

from sortclues.errors import NoColumns, NoRow, NoRows, NoSchema, NoStep

ORDERS = ("up first", "up last", "down first", "down last")
MOST_COLUMNS = 6


def is_schema(thing):
    """Tell whether thing is a schema: a list of 1 to 6 columns."""
    if not isinstance(thing, list) or not 1 <= len(thing) <= MOST_COLUMNS:
        return False
    return all([is_column(column) for column in thing])


def is_column(thing):
    """Tell whether thing is a tuple of 1 to 4 different orders."""
    if not isinstance(thing, tuple) or not 1 <= len(thing) <= len(ORDERS):
        return False
    if not all([order in ORDERS for order in thing]):
        return False
    return len(set(thing)) == len(thing)


def check_schema(schema):
    """Raise NoSchema unless schema is a schema."""
    if not is_schema(schema):
        raise NoSchema("not a schema")


def is_whole(thing):
    """Tell whether thing is a whole number."""
    # Python counts True and False among the integers; the document does not.
    return isinstance(thing, int) and not isinstance(thing, bool)


def is_number_below(many, thing):
    """Tell whether thing is a whole number from 0 on that is less than many."""
    return is_whole(thing) and 0 <= thing < many


def is_value(thing):
    """Tell whether thing is a value: a whole number or empty."""
    return thing is None or is_whole(thing)


def is_row(schema, thing):
    """Tell whether thing is a row of the schema."""
    check_schema(schema)
    if not isinstance(thing, tuple) or len(thing) != len(schema):
        return False
    return all([is_value(value) for value in thing])


def check_row(schema, row):
    """Raise NoRow unless row is a row of the schema."""
    if not is_row(schema, row):
        raise NoRow("not a row of the schema")


def check_rows(schema, rows):
    """Raise NoRows unless rows is a list of rows of the schema."""
    if not isinstance(rows, list) or not all([is_row(schema, row) for row in rows]):
        raise NoRows("not a list of rows of the schema")


def is_step(schema, thing):
    """Tell whether thing is a step of the schema."""
    check_schema(schema)
    if not isinstance(thing, tuple) or len(thing) != 2:
        return False
    column, order = thing
    if not is_number_below(len(schema), column):
        return False
    return order in schema[column]


def check_step(schema, step):
    """Raise NoStep unless step is a step of the schema."""
    if not is_step(schema, step):
        raise NoStep("not a step of the schema")


def all_steps(schema):
    """List all steps of the schema, column by column."""
    check_schema(schema)
    return [(column, order) for column, orders in enumerate(schema) for order in orders]


def is_columns(schema, thing):
    """Tell whether thing is a tuple of different columns of the schema."""
    check_schema(schema)
    if not isinstance(thing, tuple):
        return False
    if not all([is_number_below(len(schema), column) for column in thing]):
        return False
    return len(set(thing)) == len(thing)


def check_columns(schema, columns):
    """Raise NoColumns unless columns is a tuple of different columns of the schema."""
    if not is_columns(schema, columns):
        raise NoColumns("not a tuple of different columns of the schema")
