"""The balances of moves, told as a list in one form, and the shares of weights in such a list."""

from tokenmoor.moors import change
from tokenmoor.walks import shifted
from tokenmoor.weights import weigh


def balances(moves, many):
    found = [unit(place, many) for place in range(many)]
    for move in moves:
        step = change(move)
        # With what they weigh of the change in front, the rows that begin with 0 in neat form are all that balance it.
        weighed = neat([(weigh(weights, step),) + weights for weights in found])
        found = [row[1:] for row in weighed if row[0] == 0]
    return found


def unit(place, many):
    return tuple([1 if at == place else 0 for at in range(many)])


def neat(rows):
    found = []
    left = rows
    column = 0
    # No row is a sum of others, so each comes to a lead of its own before the columns end.
    while len(left) > 0:
        left = gathered(left, column)
        if left[0][column] != 0:
            lead = upright(left[0], column)
            found = [lowered(row, lead, column) for row in found] + [lead]
            left = left[1:]
        column += 1
    return found


def gathered(rows, column):
    kept = rows[:1]
    for row in rows[1:]:
        pair = divided(kept[0], row, column)
        kept = [pair[0]] + kept[1:] + [pair[1]]
    return kept


def divided(row, other, column):
    # Euclid's way: what both have in common at the column goes to the first one, and the other one has 0 there.
    while other[column] != 0:
        rest = lowered(row, other, column)
        row = other
        other = rest
    return (row, other)


def upright(row, column):
    return row if row[column] > 0 else tuple([-number for number in row])


def lowered(row, lead, column):
    return shifted(row, lead, -(row[column] // lead[column]))


def shares(basis, weights):
    times = []
    rest = weights
    for row in basis:
        column = lead_of(row)
        times.append(rest[column] // row[column])
        # Where this doesn't come to 0 at the column, no later row can mend it: they all have 0 there.
        rest = lowered(rest, row, column)
    if any([number != 0 for number in rest]):
        return None
    return times


def lead_of(row):
    return [at for at, number in enumerate(row) if number != 0][0]
