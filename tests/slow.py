"""Slow answers to whole questions, taken straight from the document's words."""

import itertools

from helpers import lifts, over, plain_flood, plain_next_ring, plain_weight, walk


def plain_enough(moves, target, most):
    """Ring by ring, as point 15 says it."""
    ring = [target]
    for number in itertools.count():
        further = plain_next_ring(moves, ring)
        if len(ring) > most:
            return ("open", number)
        if further == ring:
            return ("basis", ring)
        if number == most:
            return ("open", number)
        ring = further


def plain_cover(moor, target, most):
    """Ring by ring, as point 16 says it; the row is sought by going from the beginning."""
    begin, moves = moor
    ring = [target]
    for number in itertools.count():
        further = plain_next_ring(moves, ring)
        if lifts(ring, begin):
            return ("row", first_row(begin, moves, target, number))
        if len(ring) > most:
            return ("open", number)
        if further == ring:
            return ("wall", ring)
        if number == most:
            return ("open", number)
        ring = further


def first_row(begin, moves, target, length):
    """Of all rows of so many moves to a stand over the target the first in order; None where there is none."""
    # The first row to each stand, and the stands in the order of these rows.
    rows = {begin: []}
    for each in range(length):
        longer = {}
        for stand, row in rows.items():
            for number in range(len(moves)):
                behind = walk(stand, moves, [number])[0]
                if behind is not None:
                    longer.setdefault(behind, row + [number])
        rows = longer
    found = [row for stand, row in rows.items() if over(stand, target)]
    return found[0] if found else None


def all_sets(many):
    return [places for size in range(many + 1) for places in itertools.combinations(range(many), size)]


def plain_breaks(moves, places, forced, answer):
    """The first move with counts there in the part that forces, and none there in the part that answers."""
    for number, move in enumerate(moves):
        if sum(move[forced][place] for place in places) and not sum(move[answer][place] for place in places):
            return number
    return None


def dry_break(moves, places):
    return plain_breaks(moves, places, 1, 0)


def wet_break(moves, places):
    return plain_breaks(moves, places, 0, 1)


def plain_greatest(sets, places):
    """Of these sets the one within the places that has all others within them in it."""
    inner = [set(one) for one in sets if set(one) <= set(places)]
    found = [one for one in inner if all(other <= one for other in inner)]
    return tuple(sorted(found[0]))


def plain_least_sets(sets):
    filled = [set(one) for one in sets if one]
    return sorted(tuple(sorted(one)) for one in filled if not any(other < one for other in filled))


def way_of(rows, number):
    """The numbers from the first row to this one, and the moves between them."""
    numbers, moves = [number], []
    while rows[numbers[0]][1] is not None:
        moves.insert(0, rows[numbers[0]][2])
        numbers.insert(0, rows[numbers[0]][1])
    return numbers, moves


def plain_lift(rows):
    """The row and what may go again, as point 38 says it; None where no stand covers one on its way."""
    for number, (stand, parent, move) in enumerate(rows):
        numbers, moves = way_of(rows, number)
        for at in reversed(range(len(numbers) - 1)):
            elder = rows[numbers[at]][0]
            if over(stand, elder) and stand != elder:
                return moves[:at], moves[at:]
    return None


def is_stuck(moor, stand):
    return all(walk(stand, moor[1], [number])[0] is None for number in range(len(moor[1])))


def plain_kept(moor):
    """All sets gone through, as point 39 says it."""
    begin, moves = moor
    if not moves or any(number > 1 for take, put in moves for number in take):
        return None
    sets = all_sets(len(begin))
    wet = [places for places in sets if wet_break(moves, places) is None]
    dry = plain_least_sets([places for places in sets if dry_break(moves, places) is None])
    pairs = [(places, plain_greatest(wet, places)) for places in dry]
    if any(sum(begin[place] for place in inner) == 0 for places, inner in pairs):
        return None
    return pairs


def plain_end_of(moor, most):
    """The first that holds, as point 40 says it."""
    free = [number for number, (take, put) in enumerate(moor[1]) if sum(take) == 0]
    if free:
        return ("free", free[0])
    rows, whole = plain_flood(moor, most)
    ends = [number for number, row in enumerate(rows) if is_stuck(moor, row[0])]
    if ends:
        return ("end", way_of(rows, ends[0])[1])
    if whole:
        return ("none", [row[0] for row in rows])
    if plain_kept(moor) is not None:
        return ("kept", plain_kept(moor))
    return ("open",)


def plain_again(moor, move, most):
    """The first that holds, as point 41 says it."""
    word, basis = plain_enough(moor[1], moor[1][move][0], most)
    if word == "open":
        return ("open",)
    rows, whole = plain_flood(moor, most)
    lost = [number for number, row in enumerate(rows) if not lifts(basis, row[0])]
    if lost:
        return ("dies", way_of(rows, lost[0])[1], basis)
    if whole:
        return ("lives", [row[0] for row in rows])
    behind = [
        walk(tuple(max(a, b) for a, b in zip(stand, one[0])), [one], [0])[0] for stand in basis for one in moor[1]]
    return ("always", basis) if all(lifts(basis, stand) for stand in behind) else ("open",)


def plain_reached(moor, stand, most, balances):
    """The first that holds, as point 42 says it; the balances of the moves are handed in."""
    begin, moves = moor
    rows, whole = plain_flood(moor, most)
    for number, row in enumerate(rows):
        if row[0] == stand:
            return ("row", way_of(rows, number)[1])
    if whole:
        return ("all", [row[0] for row in rows])
    unlike = [weights for weights in balances if plain_weight(weights, stand) != plain_weight(weights, begin)]
    if unlike:
        return ("balance", unlike[0])
    sets = all_sets(len(begin))
    for word, breaks, empty, full in (("dry", dry_break, begin, stand), ("wet", wet_break, stand, begin)):
        fitting = [places for places in sets if breaks(moves, places) is None]
        places = plain_greatest(fitting, [place for place in range(len(empty)) if empty[place] == 0])
        if any(full[place] for place in places):
            return (word, places)
    told = plain_cover(moor, stand, most)
    return told if told[0] == "wall" else ("open",)
