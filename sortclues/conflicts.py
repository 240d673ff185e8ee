"""Clues that follow from others, clues that contradict each other, and clues that can be left out."""

from sortclues.clues import check_clue, check_clues
from sortclues.errors import Explained
from sortclues.finding import rule_or_knot, rule_or_knot_of
from sortclues.saying import check_explained
from sortclues.schemas import all_steps, check_columns


def implied(schema, clues, clue, *, branching=()):
    """Return ("implied", a knot for each contrary of the clue) or ("rule", one that does not keep the clue)."""
    check_clues(schema, clues)
    check_clue(schema, clue)
    check_columns(schema, branching)
    knots = []
    for contrary in contraries(clue):
        word, found = rule_or_knot(schema, clues + [contrary], branching, ())
        if word == "rule":
            return ("rule", found)
        knots.append(found)
    return ("implied", knots)


def contraries(clue):
    """List the clues of which a rule keeps one if it does not keep this clue."""
    word, x, y = clue
    if word == "ahead":
        return [("alike", x, y), ("ahead", y, x)]
    if word == "not behind":
        return [("ahead", y, x)]
    return [("ahead", x, y), ("ahead", y, x)]


def implies(schema, clues, clue, branching):
    """Tell whether every rule that explains the clues keeps the clue; all arguments are known to be right."""
    found = [rule_or_knot(schema, clues + [contrary], branching, ()) for contrary in contraries(clue)]
    return all([answer[0] == "knot" for answer in found])


def least_conflict(schema, clues, *, branching=()):
    """Return numbers of clues that no rule explains, and for each a rule that explains the others of them."""
    check_clues(schema, clues)
    check_columns(schema, branching)
    word, knot = rule_or_knot(schema, clues, branching, ())
    if word == "rule":
        raise Explained("a rule explains the clues")
    least = least_knot(schema, clues, knot, branching)
    return (least, [found_but_for(schema, clues, least, number, branching)[1] for number in least])


def least_knot(schema, clues, knot, branching):
    """Take clues out of a knot as long as no rule explains those that are left."""
    least = knot
    for number in knot:
        # What has a rule without this clue has one, too, when others are taken out later: once is enough.
        word, found = found_but_for(schema, clues, least, number, branching)
        if word == "knot":
            least = found
    return least


def found_but_for(schema, clues, numbers, number, branching):
    """Find a rule for the clues with these numbers but for one, or a knot among them."""
    others = [other for other in numbers if other != number]
    return rule_or_knot_of(all_steps(schema), clues, others, branching)


def lean(schema, clues, *, branching=()):
    """List the numbers of the clues that are left when each that the others imply is taken out in turn."""
    check_clues(schema, clues)
    check_columns(schema, branching)
    check_explained(schema, clues, branching)
    left = list(range(len(clues)))
    for number, clue in enumerate(clues):
        others = [other for other in left if other != number]
        if implies(schema, [clues[other] for other in others], clue, branching):
            left = others
    return left
