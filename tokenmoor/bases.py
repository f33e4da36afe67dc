"""Bases: lists of least stands, each for all stands that cover one of it."""

from tokenmoor.moors import covers


def least(stands):
    found = []
    # A stand sorts behind all that it covers, so each need only be held against those found before it.
    for stand in sorted(stands):
        if not lifted(stand, found):
            found.append(stand)
    return found


def lifted(stand, basis):
    for low in basis:
        if covers(stand, low):
            return True
    return False


def source(stand, move):
    return tuple([max(take, number - put + take) for number, take, put in zip(stand, move[0], move[1])])


def sources(moves, basis):
    found = []
    for move in moves:
        found.extend([source(stand, move) for stand in basis])
    return found


def step_back(moves, basis):
    return least(list(basis) + sources(moves, basis))


def is_shut(moves, basis):
    return all([lifted(stand, basis) for stand in sources(moves, basis)])


def either(one, other):
    return least(list(one) + list(other))


def both(one, other):
    found = []
    for stand in one:
        found.extend([least_over(stand, mate) for mate in other])
    return least(found)


def least_over(stand, other):
    return tuple([max(number, wanted) for number, wanted in zip(stand, other)])
