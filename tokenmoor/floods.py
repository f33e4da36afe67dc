"""The flood of a moor, stand by stand, and whether a moor is bounded."""

from tokenmoor.ceilings import level
from tokenmoor.climbs import row_between
from tokenmoor.crowns import way_back
from tokenmoor.moors import able, after, covers


def flood(moor, most):
    rows = [(moor[0], None, None)]
    known = {moor[0]: True}
    at = 0
    while at < len(rows):
        stand = rows[at][0]
        for behind, number in stands_behind(moor, stand):
            if behind in known:
                continue
            if len(rows) == most:
                return (rows, False)
            known[behind] = True
            rows.append((behind, at, number))
        at += 1
    return (rows, True)


def stands_behind(moor, stand):
    return [(after(stand, move), number) for number, move in enumerate(moor[1]) if able(stand, move)]


def stands_in(rows):
    return [row[0] for row in rows]


def row_to(rows, number):
    return row_between(rows, 0, number)


def bounded(moor, most):
    told = flood(moor, most)
    rows = told[0]
    lift = first_lift(rows)
    if lift is not None:
        return ("lift", row_to(rows, lift[0]), row_between(rows, lift[0], lift[1]))
    if told[1]:
        return ("all", stands_in(rows))
    height = level(moor[1], len(moor[0]))
    return height if height[0] == "weights" else ("open",)


def first_lift(rows):
    for number, row in enumerate(rows):
        for elder in way_back(rows, number)[1:]:
            # No stand is twice in a flood, so what this one covers here is unlike it.
            if covers(row[0], rows[elder][0]):
                return (elder, number)
    return None
