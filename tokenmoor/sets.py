"""Sets of places that stay without counters (dry), or never lose their last one (wet)."""


def is_dry(moves, places):
    return breaks_dry(moves, places) is None


def is_wet(moves, places):
    return breaks_wet(moves, places) is None


def breaks_dry(moves, places):
    for number, move in enumerate(moves):
        if touches(move[1], places) and not touches(move[0], places):
            return number
    return None


def breaks_wet(moves, places):
    # A set is wet for moves just where it is dry for them turned about, here and below.
    return breaks_dry(turned(moves), places)


def touches(counts, places):
    return any([counts[place] > 0 for place in places])


def greatest_dry(moves, places):
    kept = places
    number = breaks_dry(moves, kept)
    while number is not None:
        # The move takes nothing from what is kept, so no dry set within it has a place into which the move puts.
        kept = tuple([place for place in kept if moves[number][1][place] == 0])
        number = breaks_dry(moves, kept)
    return kept


def greatest_wet(moves, places):
    return greatest_dry(turned(moves), places)


def least_dry(moves, many):
    found = []
    for places in filled_sets(many):
        if is_dry(moves, places) and not any([within(small, places) for small in found]):
            found.append(places)
    return sorted(found)


def least_wet(moves, many):
    return least_dry(turned(moves), many)


def filled_sets(many):
    found = [()]
    # Each set comes behind all those within it.
    for place in range(many):
        found = found + [places + (place,) for places in found]
    return found[1:]


def within(small, places):
    return all([place in places for place in small])


def turned(moves):
    return tuple([(put, take) for take, put in moves])
