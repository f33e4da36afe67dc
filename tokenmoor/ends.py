"""Ends, moors that are kept from them, and whether a move can always go again."""

from tokenmoor.backs import enough
from tokenmoor.bases import least_over, lifted
from tokenmoor.floods import flood, row_to, stands_in
from tokenmoor.moors import able, after
from tokenmoor.sets import greatest_wet, least_dry, touches


def is_end(moor, stand):
    return not any([able(stand, move) for move in moor[1]])


def kept(moor):
    moves = moor[1]
    if len(moves) == 0 or not takes_singly(moves):
        return None
    pairs = [(places, greatest_wet(moves, places)) for places in least_dry(moves, len(moor[0]))]
    if not all([touches(moor[0], wet) for dry, wet in pairs]):
        return None
    return pairs


def takes_singly(moves):
    return all([max(move[0]) <= 1 for move in moves])


def end_of(moor, most):
    for number, move in enumerate(moor[1]):
        if max(move[0]) == 0:
            return ("free", number)
    told = flood(moor, most)
    for number, stand in enumerate(stands_in(told[0])):
        if is_end(moor, stand):
            return ("end", row_to(told[0], number))
    if told[1]:
        return ("none", stands_in(told[0]))
    pairs = kept(moor)
    return ("open",) if pairs is None else ("kept", pairs)


def again(moor, move, most):
    reach = enough(moor[1], moor[1][move][0], most)
    if reach[0] == "open":
        return ("open",)
    basis = reach[1]
    told = flood(moor, most)
    for number, stand in enumerate(stands_in(told[0])):
        if not lifted(stand, basis):
            return ("dies", row_to(told[0], number), basis)
    if told[1]:
        return ("lives", stands_in(told[0]))
    return ("always", basis) if is_never_left(moor[1], basis) else ("open",)


def is_never_left(moves, basis):
    for move in moves:
        # From any stand that the basis lifts, the move leads to one that covers what it leads to from the least ones.
        least_behind = [after(least_over(stand, move[0]), move) for stand in basis]
        if not all([lifted(stand, basis) for stand in least_behind]):
            return False
    return True
