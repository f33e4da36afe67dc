"""Counts, moors, and single moves from a stand."""

from tokenmoor.errors import NoMoor, Stuck

GREATEST_COUNT = 1000000000
MOST_PLACES = 6
MOST_MOVES = 8


def is_count(thing):
    # True and False are ints to Python, but no whole numbers here.
    if isinstance(thing, bool) or not isinstance(thing, int):
        return False
    return 0 <= thing <= GREATEST_COUNT


def moor(begin, moves):
    must_be_listed(begin, "the beginning", 1, MOST_PLACES)
    many = len(begin)
    stand = made_counts(begin, "the beginning", many)
    must_be_listed(moves, "the moves", 0, MOST_MOVES)
    return (stand, tuple([made_move(move, many) for move in moves]))


def made_move(move, many):
    must_be_listed(move, "a move", 2, 2)
    return (made_counts(move[0], "a take", many), made_counts(move[1], "a put", many))


def made_counts(things, what, many):
    must_be_listed(things, what, many, many)
    for thing in things:
        if not is_count(thing):
            raise NoMoor(f"{what} has something in it that is no count")
    return tuple(things)


def must_be_listed(things, what, fewest, most):
    if not isinstance(things, (list, tuple)):
        raise NoMoor(f"{what} is no list or tuple")
    if not fewest <= len(things) <= most:
        raise NoMoor(f"{what} is of a wrong length")


def covers(stand, other):
    for number, wanted in zip(stand, other):
        if number < wanted:
            return False
    return True


def able(stand, move):
    return covers(stand, move[0])


def after(stand, move):
    if not able(stand, move):
        raise Stuck(0)
    return tuple([number + step for number, step in zip(stand, change(move))])


def change(move):
    return tuple([put - take for take, put in zip(move[0], move[1])])
