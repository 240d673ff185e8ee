"""Evidence: clues that change, what they say now, and the way back through their changes."""

from sortclues.clues import check_clue, check_clues, is_clue
from sortclues.conflicts import implies
from sortclues.errors import NoNumber, Unexplained, Unlike
from sortclues.finding import rule_or_knot
from sortclues.saying import says
from sortclues.schemas import check_columns, check_row, is_number_below
from sortclues.sorter import Sorter


class Evidence:
    """Clues of a schema, about the rules that branching means, with all changes that can be taken back."""

    def __init__(self, schema, clues=(), *, branching=()):
        check_clues(schema, list(clues) if isinstance(clues, tuple) else clues)
        check_columns(schema, branching)
        self._schema = list(schema)
        # The order of the columns means nothing; ascending, they are equal if the same ones were given.
        self._branching = tuple(sorted([int(column) for column in branching]))
        self._clues = tuple(clues)
        self._past = []

    def see(self, word, x, y):
        """Put a clue at the end."""
        clue = (word, x, y)
        check_clue(self._schema, clue)
        self._change_to(self._clues + (clue,))

    def chain(self, *rows):
        """Put at the end, for each two neighbours of the rows, that the first one is not behind the second one."""
        for row in rows:
            check_row(self._schema, row)
        links = [("not behind", rows[at - 1], rows[at]) for at in range(1, len(rows))]
        self._change_to(self._clues + tuple(links))

    def drop(self, k):
        """Take out the clue with this number."""
        self._check_number(k)
        self._change_to(self._clues[:k] + self._clues[k + 1:])

    def back(self):
        """Take back the last change that has not been taken back; tell whether there was one."""
        if self._past == []:
            return False
        self._clues = self._past.pop()
        return True

    def clues(self):
        """List the clues as they are now."""
        return list(self._clues)

    def find(self):
        """Return ("rule", a rule that explains the clues) or ("knot", numbers)."""
        return rule_or_knot(self._schema, self.clues(), self._branching, ())

    def says(self, x, y):
        """List what find returns if x is ahead of y, too, if they are alike, and if y is ahead of x."""
        return says(self._schema, self.clues(), x, y, branching=self._branching)

    def sorter(self):
        """Return a sorter with a rule that explains the clues."""
        word, found = self.find()
        if word == "knot":
            raise Unexplained("no rule explains the clues")
        return Sorter(self._schema, found)

    def __len__(self):
        """Return how many clues there are."""
        return len(self._clues)

    def __contains__(self, x):
        """Tell whether x, which may be anything, is one of the clues."""
        return is_clue(self._schema, x) and x in self._clues

    def __getitem__(self, at):
        """Return the clue with this number."""
        self._check_number(at)
        return self._clues[at]

    def __setitem__(self, at, worth):
        """Put another clue in the place of the one with this number."""
        self._check_number(at)
        check_clue(self._schema, worth)
        self._change_to(self._clues[:at] + (worth,) + self._clues[at + 1:])

    # Without this, Python would go through the clues by their numbers and meet NoNumber at their end.
    def __iter__(self):
        raise TypeError("evidence cannot be iterated over")

    def __eq__(self, other):
        """Tell whether other is evidence with the same schema, branching and clues."""
        return (isinstance(other, Evidence) and self._schema == other._schema
                and self._branching == other._branching and self._clues == other._clues)

    def __and__(self, other):
        """Return new evidence with these clues and those of the other that are not among them."""
        self._check_alike(other)
        return Evidence(self._schema, joined(self._clues, other._clues), branching=self._branching)

    def __iand__(self, other):
        """Put the clues of the other that are not there yet at the end."""
        self._check_alike(other)
        self._change_to(tuple(joined(self._clues, other._clues)))
        return self

    def __le__(self, other):
        """Tell whether every rule that explains these clues explains those of the other."""
        self._check_alike(other)
        return all([implies(self._schema, self.clues(), clue, self._branching) for clue in other._clues])

    def _change_to(self, clues):
        """Make these the clues, so that the change can be taken back."""
        self._past.append(self._clues)
        self._clues = clues

    def _check_number(self, number):
        """Raise NoNumber unless number, which may be anything, is the number of a clue."""
        if not is_number_below(len(self._clues), number):
            raise NoNumber("not the number of a clue")

    def _check_alike(self, other):
        """Raise Unlike unless other, which may be anything, is evidence with the same schema and branching."""
        if not isinstance(other, Evidence):
            raise Unlike("not evidence")
        if self._schema != other._schema or self._branching != other._branching:
            raise Unlike("evidence with another schema or branching")


def joined(clues, others):
    """List the clues, and behind them each of the others that is not there yet."""
    together = list(clues)
    for clue in others:
        if clue not in together:
            together.append(clue)
    return together
