"""Ceilings of places: falling weights that hold a place down, or a bag of moves that lifts it."""

from tokenmoor.balances import unit
from tokenmoor.moors import change
from tokenmoor.walks import shifted


def ceiling(moves, place, many):
    # The simplex method, asked for the most that a bag brings to the place: none at all, or any number. In the table a
    # column stands for each move and, behind them, for what each place gains; all numbers are over one `scale`.
    table = first_table(moves, place, many)
    held = [len(moves) + at for at in range(many)]
    scale = 1
    column = coming(table)
    while column is not None:
        line = leaving(table, held, column)
        if line is None:
            return ("bag", bag_of(table, held, column, scale, len(moves)))
        table = pivoted(table, line, column, scale)
        held[line] = column
        scale = table[line][column]
        column = coming(table)
    return ("weights", weights_of(table, place, scale, len(moves)))


def first_table(moves, place, many):
    steps = [change(move) for move in moves]
    table = [tuple([-step[at] for step in steps]) + unit(at, many) for at in range(many)]
    table.append(tuple([step[place] for step in steps]) + (0,) * many)
    return table


def coming(table):
    # The first column that fits, here and in `leaving`: so no table comes a second time (Bland's rule).
    for column, gain in enumerate(table[-1]):
        if gain > 0:
            return column
    return None


def leaving(table, held, column):
    lines = [line for line in range(len(held)) if table[line][column] > 0]
    return min(lines, key=lambda one: held[one], default=None)


def pivoted(table, line, column, scale):
    by = table[line]
    return [row if at == line else cleared(row, by, column, scale) for at, row in enumerate(table)]


def cleared(row, by, column, scale):
    # The division leaves no rest: each number of the table is a determinant of numbers of the first one.
    return tuple([(number * by[column] - row[column] * mate) // scale for number, mate in zip(row, by)])


def bag_of(table, held, column, scale, many_moves):
    times = [0] * len(table[0])
    times[column] = scale
    for line, holder in enumerate(held):
        times[holder] = -table[line][column]
    return in_least_numbers(times[:many_moves])


def weights_of(table, place, scale, many_moves):
    losses = [-gain for gain in table[-1][many_moves:]]
    return in_least_numbers(shifted(losses, unit(place, len(losses)), scale))


def in_least_numbers(numbers):
    shared = 0
    for number in numbers:
        shared = greatest_divisor(shared, number)
    return tuple([number // shared for number in numbers])


def greatest_divisor(one, other):
    while other != 0:
        rest = one % other
        one = other
        other = rest
    return one


def level(moves, many):
    total = (0,) * many
    for place in range(many):
        told = ceiling(moves, place, many)
        if told[0] == "bag":
            return ("bag", place, told[1])
        total = shifted(total, told[1], 1)
    return ("weights", in_least_numbers(total))
