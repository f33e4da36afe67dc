"""Whether a row leads to one very stand, or why none does."""

from tokenmoor.backs import cover
from tokenmoor.balances import balances
from tokenmoor.floods import flood, row_to, stands_in
from tokenmoor.sets import greatest_dry, greatest_wet, touches
from tokenmoor.weights import weigh


def reached(moor, stand, most):
    told = flood(moor, most)
    stands = stands_in(told[0])
    if stand in stands:
        return ("row", row_to(told[0], stands.index(stand)))
    if told[1]:
        return ("all", stands)
    reason = unlike_balance(moor, stand)
    if reason is None:
        reason = kept_out(moor, stand)
    if reason is None:
        reason = walled_off(moor, stand, most)
    return ("open",) if reason is None else reason


def unlike_balance(moor, stand):
    for weights in balances(moor[1], len(stand)):
        if weigh(weights, stand) != weigh(weights, moor[0]):
            return ("balance", weights)
    return None


def kept_out(moor, stand):
    dry = greatest_dry(moor[1], empty_places(moor[0]))
    if touches(stand, dry):
        return ("dry", dry)
    wet = greatest_wet(moor[1], empty_places(stand))
    if touches(moor[0], wet):
        return ("wet", wet)
    return None


def empty_places(stand):
    return tuple([place for place, number in enumerate(stand) if number == 0])


def walled_off(moor, stand, most):
    told = cover(moor, stand, most)
    return told if told[0] == "wall" else None
