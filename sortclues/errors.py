"""The errors that this package raises, each one a direct subclass of SortError."""


class SortError(ValueError):
    """What all errors of this package have in common."""


class NoSchema(SortError):
    """The argument for a schema is none."""


class NoRow(SortError):
    """An argument for a row is no row of the schema."""


class NoRows(SortError):
    """The argument for rows is not a list of rows of the schema."""


class NoRule(SortError):
    """An argument for a rule is no rule, or not one of the kind that is asked for."""


class NoStep(SortError):
    """The argument for a step is no step of the schema."""


class NoClue(SortError):
    """The argument for a clue is no clue of the schema."""


class NoClues(SortError):
    """The argument for clues is not a list of clues of the schema."""


class NoColumns(SortError):
    """An argument for columns is not a tuple of different columns of the schema."""


class NoNumber(SortError):
    """The argument for the number of a clue is the number of none."""


class NotAllowed(SortError):
    """The schema does not allow an order that is needed."""


class Explained(SortError):
    """A rule explains the clues, though none should."""


class Unexplained(SortError):
    """No rule explains the clues, though one should."""


class Unlike(SortError):
    """The other side is not evidence about the same schema and branching."""


class NoText(SortError):
    """The string is no text of such a thing; line is the number of the first wrong line."""

    def __init__(self, line):
        super().__init__(f"line {line} cannot stand there")
        self.line = line
