"""What several test files share: made moors, and slow answers taken straight from the document's words."""

import itertools
import random

TOP = 10 ** 9
HUGE = 10 ** 299 + 7

# Moors of one to six places and of none to eight moves, the edges of the document among them.
PLAIN = (
    ((0,), ()),
    ((TOP,), (((TOP,), (0,)),)),
    ((0,), (((0,), (TOP,)), ((1,), (0,)))),
    ((2, 0), (((1, 0), (0, 1)), ((0, 1), (1, 0)))),
    ((1, 0, 0), (((1, 0, 0), (0, 2, 1)), ((0, 1, 0), (0, 0, 3)), ((0, 0, 2), (1, 0, 0)))),
    ((3, 1, 0, 2), (((1, 1, 0, 0), (0, 0, 1, 1)), ((0, 0, 1, 0), (2, 0, 0, 0)))),
    ((0, 5, 0, 0, 1), (((0, 2, 0, 0, 1), (1, 0, 1, 0, 2)),)),
    ((1, 1, 1, 1, 1, 1), tuple(
        (tuple(1 if p == k % 6 else 0 for p in range(6)), tuple(2 if p == (k + 1) % 6 else 0 for p in range(6)))
        for k in range(8))),
)


def some_moors(seed, how_many):
    """Made moors, the same for the same seed: small numbers, so that moves both go and get stuck."""
    dice = random.Random(seed)
    made = []
    for number in range(how_many):
        many = dice.randint(1, 6)
        moves = tuple(
            (some_stand(dice, many, 2), some_stand(dice, many, 2)) for each in range(dice.randint(0, 8)))
        made.append((some_stand(dice, many, 4), moves))
    return made


def some_stand(dice, many, top):
    return tuple(dice.randint(0, top) for place in range(many))


def some_row(dice, moves, longest):
    if not moves:
        return []
    return [dice.randrange(len(moves)) for each in range(dice.randint(0, longest))]


def grid(many, top):
    """Every stand of so many places with no number above top."""
    return list(itertools.product(range(top + 1), repeat=many))


def walk(stand, moves, row):
    """The stand behind the row and how many moves went; None for the stand where one can't go."""
    here = list(stand)
    for went, number in enumerate(row):
        take, put = moves[number]
        if any(here[place] < take[place] for place in range(len(here))):
            return None, went
        here = [here[place] - take[place] + put[place] for place in range(len(here))]
    return tuple(here), len(row)


def over(stand, other):
    return all(stand[place] >= other[place] for place in range(len(stand)))


def lifts(basis, stand):
    return any(over(stand, low) for low in basis)


def plain_least(stands):
    kept = [one for one in set(stands) if not any(over(one, other) and one != other for other in stands)]
    return sorted(kept)
