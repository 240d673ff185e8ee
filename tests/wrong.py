"""Things that are no clue, no clues, no step, no row, no columns and no numbers of clues of samples.SCHEMA."""

from samples import ODD

LOW, HIGH = (1, 2, 3), (4, None, 6)
CLUE = ("ahead", LOW, HIGH)

NO_ROWS = [None, True, 0, "123", [1, 2, 3], (1, 2), (1, 2, 3, 4), (1, 2, True), (False, 2, 3), (1, "2", 3),
           (1, (2,), 3), (1, [2], 3), ((1, 2, 3),), (), ""]

NO_CLUE = ODD + [
    None, [], LOW, list(CLUE), ["ahead", list(LOW), list(HIGH)], (LOW, HIGH), ("ahead", LOW), ("ahead",),
    CLUE + (None,), CLUE + HIGH, (LOW, "ahead", HIGH), (LOW, HIGH, "ahead"), (CLUE,), [CLUE],
    ("behind", LOW, HIGH), ("Ahead", LOW, HIGH), ("ahead ", LOW, HIGH), ("", LOW, HIGH), ("not  behind", LOW, HIGH),
    (None, LOW, HIGH), (True, LOW, HIGH), (0, LOW, HIGH), (("ahead",), LOW, HIGH), (["ahead"], LOW, HIGH),
    (("ahead", "alike"), LOW, HIGH), "ahead", ("ahead", (LOW, HIGH)), ("ahead", (LOW,), (HIGH,))] + [
    (word, *rows) for row in NO_ROWS for word in ("ahead", "alike") for rows in ((row, LOW), (HIGH, row), (row, row))]

NO_CLUES = [thing for thing in NO_CLUE + [CLUE, (CLUE,), (CLUE, CLUE)] if thing not in ([], [CLUE])] + [
    [CLUE, CLUE, thing] for thing in NO_CLUE] + [[thing, CLUE] for thing in NO_CLUE] + [[[CLUE]], [[CLUE], CLUE]]

NO_STEPS = ODD + [
    None, [], (1, "up first"), (0, "down last"), (3, "up first"), (-1, "up first"), (-3, "up first"),
    (True, "down last"), (False, "up first"), [0, "up first"], (0, "up first", []), (0, "up first", [], None), (0,),
    ("up first", 0), (0, None), (None, "up first"), ((0,), "up first"), ([], "up first"), (0, ["up first"]), (0, 0),
    ("0", "up first"), [(0, "up first")], ((0, "up first"),), (10 ** 29, "up first")]

NO_COLUMNS = [thing for thing in ODD if thing != ()] + [
    None, [], [0], [0, 1], (0, 0), (2, 1, 2), (3,), (0, 3), (-1,), (0, -1), (True,), (False,), (0, True), (0, None),
    ("0",), ([0],), ((0,),), ((),), ([],), "0", "012", 0, 2, (0, 1, 2, 3), (10 ** 29,), (0, 1, 2, 0)]

# For three clues; the right ones are lists of whole numbers from 0 to 2.
NO_NUMBERS = [thing for thing in ODD if thing not in ([], [1])] + [
    None, (0,), (0, 1), ((0, 1),), [[0]], [[0], [1]], [(0, 1)], [0, [1]], [[]], [True], [False], [0, True], [False, 1],
    [0, None], [None, 1], ["0"], [0, "1"], "01", [3], [0, 3], [0, 1, 2, 3], [-1], [-1, 0], [0, -1], [-3, -2], [1, 0],
    [0, 0], [0, 1, 1], [2, 1, 0], [0, 2, 1], [0, 10 ** 29], 0, 1, [0, 1] * 1000, [[0, 1]], ([0, 1],), ([0], [1])]
