"""What several test files share: made moors, and slow answers taken straight from the document's words."""

import itertools
import random

TOP = 10 ** 9
HUGE = 10 ** 299 + 7

# Moors of one to six places and of none to eight moves, the edges of the document among them.
PLAIN = (
    ((0,), ()),
    ((TOP,), (((TOP,), (0,)),)),
    ((0,), (((0,), (TOP,)), ((1,), (0,)))),
    ((2, 0), (((1, 0), (0, 1)), ((0, 1), (1, 0)))),
    ((1, 0, 0), (((1, 0, 0), (0, 2, 1)), ((0, 1, 0), (0, 0, 3)), ((0, 0, 2), (1, 0, 0)))),
    ((3, 1, 0, 2), (((1, 1, 0, 0), (0, 0, 1, 1)), ((0, 0, 1, 0), (2, 0, 0, 0)))),
    ((0, 5, 0, 0, 1), (((0, 2, 0, 0, 1), (1, 0, 1, 0, 2)),)),
    ((1, 1, 1, 1, 1, 1), tuple(
        (tuple(1 if p == k % 6 else 0 for p in range(6)), tuple(2 if p == (k + 1) % 6 else 0 for p in range(6)))
        for k in range(8))),
)


def some_moors(seed, how_many):
    """Made moors, the same for the same seed: small numbers, so that moves both go and get stuck."""
    dice = random.Random(seed)
    made = []
    for number in range(how_many):
        many = dice.randint(1, 6)
        moves = tuple(
            (some_stand(dice, many, 2), some_stand(dice, many, 2)) for each in range(dice.randint(0, 8)))
        made.append((some_stand(dice, many, 4), moves))
    return made


def made_moors(seed, how_many):
    return list(PLAIN) + some_moors(seed, how_many) + sparse_moors(seed, how_many)


def some_stand(dice, many, top):
    return tuple(dice.randint(0, top) for place in range(many))


def some_row(dice, moves, longest):
    if not moves:
        return []
    return [dice.randrange(len(moves)) for each in range(dice.randint(0, longest))]


def wander(dice, stand, moves, longest):
    """A row that can go from the stand, and all the stands on its way."""
    row, stands = [], [stand]
    for each in range(longest if moves else 0):
        number = dice.randrange(len(moves))
        behind = walk(stands[-1], moves, [number])[0]
        if behind is not None:
            row.append(number)
            stands.append(behind)
    return row, stands


def grid(many, top):
    """Every stand of so many places with no number above top."""
    return list(itertools.product(range(top + 1), repeat=many))


def walk(stand, moves, row):
    """The stand behind the row and how many moves went; None for the stand where one can't go."""
    here = list(stand)
    for went, number in enumerate(row):
        take, put = moves[number]
        if any(here[place] < take[place] for place in range(len(here))):
            return None, went
        here = [here[place] - take[place] + put[place] for place in range(len(here))]
    return tuple(here), len(row)


def over(stand, other):
    return all(stand[place] >= other[place] for place in range(len(stand)))


def lifts(basis, stand):
    return any(over(stand, low) for low in basis)


def plain_least(stands):
    kept = [one for one in set(stands) if not any(over(one, other) and one != other for other in stands)]
    return sorted(kept)


def sparse_moors(seed, how_many):
    """Made moors whose moves take from few places and put on few: long rows, caps of many kinds; some great counts."""
    dice = random.Random(seed)
    made = []
    for number in range(how_many):
        many = dice.randint(1, 6)
        tops = (1, 2, 3, TOP - 1, TOP) if dice.random() < 0.1 else (1, 1, 1, 1, 2, 3)
        moves = tuple(
            (sparse_stand(dice, many, int(dice.random() > 0.05), 2, tops), sparse_stand(dice, many, 0, 2, tops))
            for each in range(dice.randint(0, 8)))
        made.append((sparse_stand(dice, many, 1, many, (0, 1, 2, 3)), moves))
    return made


def single_moors(seed, how_many):
    """Made moors whose moves take from one or two places and no more than one counter from each; some lose counters."""
    dice = random.Random(seed)
    made = []
    for number in range(how_many):
        many = dice.randint(1, 6)
        fewest = dice.choice((0, 1, 1, 1))
        moves = tuple(
            (sparse_stand(dice, many, 1, 2, (1,)), sparse_stand(dice, many, fewest, 3, (1, 1, 1, 2)))
            for each in range(dice.randint(1, 8)))
        made.append((sparse_stand(dice, many, 1, many, (0, 1, 2, 3)), moves))
    return made


def sparse_stand(dice, many, fewest, most, tops):
    """A stand with counters at so many places only, their numbers of those in tops."""
    counts = [0] * many
    for place in dice.sample(range(many), min(many, dice.randint(fewest, most))):
        counts[place] = dice.choice(tops)
    return tuple(counts)


def move_of(step):
    """A move with this change, that takes nothing where it puts something."""
    return tuple(max(0, -by) for by in step), tuple(max(0, by) for by in step)


def great_moves(dice, many, how_many, kinds):
    """Moves whose changes are great at all places, each one made up of so many kinds of them."""
    steps = [
        [dice.choice((-1, 1)) * dice.randint(10 ** 4, 2 * 10 ** 4) for place in range(many)] for kind in range(kinds)]
    made = []
    for each in range(how_many):
        times = [dice.choice((-1, 1)) * dice.randint(10 ** 3, 8 * 10 ** 3) for step in steps]
        made.append(move_of([sum(t * step[place] for t, step in zip(times, steps)) for place in range(many)]))
    return tuple(made)


def made_moves(seed, how_many):
    """Tuples (moves, many): ordinary moves, some of them the same moves to and fro, edges, and great changes."""
    dice = random.Random(seed)
    made = []
    for begin, moves in made_moors(seed, how_many):
        made.append((moves[:dice.choice((1, 2, 3, 8))], len(begin)))
        made.append((tuple(move for one in moves[:4] for move in (one, one[::-1])), len(begin)))
    for each in range(how_many // 2):
        many = dice.randint(1, 6)
        made.append((great_moves(dice, many, dice.randint(1, 8), dice.randint(1, 6)), many))
    made += [(great_moves(dice, 6, 8, kinds), 6) for kinds in range(1, 7)]
    for many in range(1, 7):
        nothing = (0,) * many
        made.append((tuple((some_stand(dice, many, TOP), some_stand(dice, many, TOP)) for each in range(8)), many))
        made += [((), many), (((nothing, nothing),), many), ((((TOP,) * many, (TOP,) * many),) * 8, many)]
        made += [(((nothing, (TOP,) * many),), many), ((((TOP,) * many, nothing),), many)]
    return made


def plain_weight(weights, counts):
    total = 0
    for place in range(len(weights)):
        total += weights[place] * counts[place]
    return total


def plain_changes(moves, weights):
    return [plain_weight(weights, put) - plain_weight(weights, take) for take, put in moves]


def plain_falling(moves, weights):
    return min(weights) >= 0 and all(number <= 0 for number in plain_changes(moves, weights))


def plain_sources(moves, basis):
    return [tuple(max(t, s - p + t) for s, t, p in zip(stand, *move)) for stand in basis for move in moves]


def plain_next_ring(moves, ring):
    return plain_least(list(ring) + plain_sources(moves, ring))


def flood(begin, moves, limit):
    """The stands to which rows lead, nearest first, and whether these are all; no more than limit of them."""
    rows, whole = plain_flood((begin, moves), limit)
    return [row[0] for row in rows], whole


def plain_flood(moor, most):
    """Row by row, as point 36 says it."""
    begin, moves = moor
    rows = [(begin, None, None)]
    known = {begin}
    taken = 0
    while taken < len(rows):
        for number in range(len(moves)):
            behind = walk(rows[taken][0], moves, [number])[0]
            if behind is None or behind in known:
                continue
            if len(rows) == most:
                return rows, False
            rows.append((behind, taken, number))
            known.add(behind)
        taken += 1
    return rows, True


def cap_under(cap, other):
    return all(b is None or a is not None and a <= b for a, b in zip(cap, other))


def cap_walk(cap, move):
    """The cap behind the move, None where it can't go."""
    if any(number is not None and number < take for number, take in zip(cap, move[0])):
        return None
    return tuple(None if number is None else number - take + put for number, take, put in zip(cap, *move))


def plain_raised(cap, elder):
    if not cap_under(elder, cap) or elder == cap:
        return cap
    told = list(cap)
    for place in range(len(cap)):
        if elder[place] is not None and cap[place] is not None and cap[place] > elder[place]:
            told[place] = None
    return tuple(told)


def plain_tops(caps):
    kept = {cap for cap in caps if not any(cap_under(cap, other) and cap != other for other in caps)}
    return sorted(kept, key=lambda cap: [(number is None, number or 0) for number in cap])


def plain_growth(moor, most):
    """Row by row, as point 23 says it; beside each row its elders, nearest first, and the places they lifted."""
    begin, moves = moor
    rows, elders, lifts = [(begin, None, None)], [[]], [[]]
    taken = 0
    while taken < len(rows):
        for number, move in enumerate(moves):
            cap = cap_walk(rows[taken][0], move)
            if cap is None:
                continue
            lifted = []
            line = [taken] + elders[taken]
            for elder in line:
                higher = plain_raised(cap, rows[elder][0])
                places = tuple(p for p in range(len(cap)) if cap[p] is not None and higher[p] is None)
                lifted += [(elder, places)] if places else []
                cap = higher
            if any(cap_under(cap, row[0]) for row in rows):
                continue
            if len(rows) == most:
                return None, None, None
            rows.append((cap, taken, number))
            elders.append(line)
            lifts.append(lifted)
        taken += 1
    return rows, elders, lifts
