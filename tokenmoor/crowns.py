"""Caps, the growth of a moor and its crown."""

from tokenmoor.errors import Stuck
from tokenmoor.moors import change


def under(cap, other):
    for number, bound in zip(cap, other):
        if bound is not None and (number is None or number > bound):
            return False
    return True


def under_any(cap, caps):
    for other in caps:
        if under(cap, other):
            return True
    return False


def cap_able(cap, move):
    return under(move[0], cap)


def cap_after(cap, move):
    if not cap_able(cap, move):
        raise Stuck(0)
    return tuple([None if number is None else number + step for number, step in zip(cap, change(move))])


def raised(cap, elder):
    if not under(elder, cap):
        return cap
    # With the elder under it, the cap is at each place like it, None or greater.
    return tuple([number if number == old else None for number, old in zip(cap, elder)])


def tops(caps):
    found = []
    # A cap sorts behind all that are under it, so from the last one on each need only be held against those found.
    for cap in sorted(caps, key=sort_key, reverse=True):
        if not under_any(cap, found):
            found.append(cap)
    found.reverse()
    return found


def sort_key(cap):
    return tuple([(1, 0) if number is None else (0, number) for number in cap])


def growth(moor, most):
    tree = [(moor[0], None, None)]
    at = 0
    while at < len(tree):
        for number in range(len(moor[1])):
            grow(moor, tree, at, number)
        if len(tree) > most:
            return None
        at += 1
    return tree


def grow(moor, tree, at, number):
    move = moor[1][number]
    if not cap_able(tree[at][0], move):
        return
    cap = cap_after(tree[at][0], move)
    for elder in way_back(tree, at):
        cap = raised(cap, tree[elder][0])
    if not under_any(cap, [row[0] for row in tree]):
        tree.append((cap, at, number))


def way_back(tree, number):
    numbers = []
    at = number
    while at is not None:
        numbers.append(at)
        at = tree[at][1]
    return numbers


def crown(moor, most):
    tree = growth(moor, most)
    if tree is None:
        return None
    return tops([row[0] for row in tree])


def is_crown(moor, caps):
    if not under_any(moor[0], caps):
        return False
    for cap in caps:
        for move in moor[1]:
            if cap_able(cap, move) and not under_any(cap_after(cap, move), caps):
                return False
    return True
