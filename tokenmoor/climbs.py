"""Ways in the growth of a moor, climbs to its caps, and the peaks of places."""

from tokenmoor.bases import least_over
from tokenmoor.crowns import cap_after, crown, raised, way_back
from tokenmoor.walks import hurdle, shifted, sum_of


def way(tree, number):
    return list(reversed(way_back(tree, number)))


def row_between(tree, elder, number):
    path = way(tree, number)
    return [tree[at][2] for at in path[path.index(elder) + 1:]]


def lifts_of(moor, tree, number):
    if number == 0:
        return []
    found = []
    cap = unraised(moor, tree, number)
    for elder in way_back(tree, number)[1:]:
        higher = raised(cap, tree[elder][0])
        places = tuple([place for place in range(len(cap)) if higher[place] != cap[place]])
        if len(places) > 0:
            found.append((elder, places))
        cap = higher
    return found


def unraised(moor, tree, number):
    row = tree[number]
    return cap_after(tree[row[1]][0], moor[1][row[2]])


def climb(moor, tree, number, height):
    wanted = tuple([height if bound is None else bound for bound in tree[number][0]])
    blocks = []
    # How much a block must bring hangs on what the blocks behind it use up, so they are found from the last one on.
    for at in way_back(tree, number)[:-1]:
        cap = unraised(moor, tree, at)
        for elder, places in reversed(lifts_of(moor, tree, at)):
            row = row_between(tree, elder, at)
            times = times_for(cap, sum_of(moor, row), places, wanted)
            if times > 0:
                blocks.append((row, times))
                wanted = wanted_ahead(moor, row, times, wanted)
        blocks.append(([tree[at][2]], 1))
        wanted = wanted_ahead(moor, [tree[at][2]], 1, wanted)
    blocks.reverse()
    return blocks


def times_for(cap, step, places, wanted):
    # Rounded upwards: the last time may bring more than is wanted.
    return max([0] + [-((cap[place] - wanted[place]) // step[place]) for place in places])


def wanted_ahead(moor, row, times, wanted):
    needed = hurdle(moor, row)
    step = sum_of(moor, row)
    # Ahead of the first time and of the last one the row's hurdle must be covered, behind the last one what is wanted.
    first_and_last = least_over(needed, shifted(needed, step, 1 - times))
    return least_over(first_and_last, shifted(wanted, step, -times))


def peak(moor, place, most):
    caps = crown(moor, most)
    if caps is None:
        return ("open",)
    numbers = [cap[place] for cap in caps]
    if None in numbers:
        return ("grows",)
    return ("at most", max(numbers))
