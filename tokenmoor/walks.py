"""Rows of moves, and blocks of rows, gone from a stand."""

from tokenmoor.bases import source
from tokenmoor.errors import Stuck
from tokenmoor.moors import able, after, change, covers


def run(moor, stand, row):
    return stands_of(moor, stand, row)[-1]


def stands_of(moor, stand, row):
    stands = [stand]
    for at, number in enumerate(row):
        move = moor[1][number]
        if not able(stands[-1], move):
            raise Stuck(at)
        stands.append(after(stands[-1], move))
    return stands


def hurdle(moor, row):
    needed = noughts(moor)
    for number in reversed(row):
        needed = source(needed, moor[1][number])
    return needed


def sum_of(moor, row):
    total = noughts(moor)
    for number in row:
        total = shifted(total, change(moor[1][number]), 1)
    return total


def stride(moor, stand, blocks):
    here = stand
    for at, block in enumerate(blocks):
        row = block[0]
        times = block[1]
        if not goes(moor, here, row, times):
            raise Stuck(at)
        here = shifted(here, sum_of(moor, row), times)
    return here


def goes(moor, stand, row, times):
    if times == 0:
        return True
    needed = hurdle(moor, row)
    # Each place rises or falls evenly from one time to the next, so it is lowest ahead of the first or of the last.
    last = shifted(stand, sum_of(moor, row), times - 1)
    return covers(stand, needed) and covers(last, needed)


def shifted(stand, step, times):
    return tuple([number + times * by for number, by in zip(stand, step)])


def noughts(moor):
    return (0,) * len(moor[0])
