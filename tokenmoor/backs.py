"""Rings, step by step back from a target, and what they tell of covering it."""

from tokenmoor.bases import is_shut, lifted, step_back
from tokenmoor.moors import able, after


def enough(moves, target, most):
    rings = [[target]]
    told = ending(moves, rings, most, "basis")
    while told is None:
        rings.append(step_back(moves, rings[-1]))
        told = ending(moves, rings, most, "basis")
    return told


def cover(moor, target, most):
    rings = [[target]]
    while not lifted(moor[0], rings[-1]):
        told = ending(moor[1], rings, most, "wall")
        if told is not None:
            return told
        rings.append(step_back(moor[1], rings[-1]))
    return ("row", row_inward(moor, rings))


def ending(moves, rings, most, word):
    ring = rings[-1]
    number = len(rings) - 1
    if len(ring) > most:
        return ("open", number)
    # The next ring is like this one just where this one is shut.
    if is_shut(moves, ring):
        return (word, ring)
    if number == most:
        return ("open", number)
    return None


def row_inward(moor, rings):
    row = []
    here = moor[0]
    # Only the last ring lifts the beginning, so each move must lead just one ring farther in.
    for ring in reversed(rings[:-1]):
        number = moves_into(here, moor[1], ring)[0]
        row.append(number)
        here = after(here, moor[1][number])
    return row


def moves_into(stand, moves, ring):
    return [number for number, move in enumerate(moves) if able(stand, move) and lifted(after(stand, move), ring)]


def walled(moor, target, basis):
    return lifted(target, basis) and is_shut(moor[1], basis) and not lifted(moor[0], basis)


def never(moor, most):
    return [is_never(cover(moor, move[0], most)) for move in moor[1]]


def is_never(told):
    if told[0] == "open":
        return None
    return told[0] == "wall"
