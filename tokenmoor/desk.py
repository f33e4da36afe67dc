"""A desk that is told a moor and asked of it, row by row."""

from tokenmoor.backs import cover
from tokenmoor.balances import balances
from tokenmoor.climbs import climb, peak
from tokenmoor.crowns import growth
from tokenmoor.ends import again, end_of
from tokenmoor.errors import NoMoor, NoName, NoRow
from tokenmoor.floods import bounded
from tokenmoor.moors import MOST_PLACES
from tokenmoor.reasons import reached
from tokenmoor.sets import least_dry, least_wet
from tokenmoor.texts import count_of, read, shown
from tokenmoor.walks import run

FIRST_BOUND = 20
GREATEST_BOUND = 30
BARE_ROWS = ("now", "home", "show", "bounded", "end", "balances", "dry", "wet")
COUNTED_ROWS = ("cover", "reached")
NAMED_ROWS = ("peak", "again")


class Desk:
    def __init__(self):
        self.moor = None
        self.places = []
        self.moves = []
        self.here = None
        self.bound = FIRST_BOUND

    def say(self, row):
        if not isinstance(row, str):
            raise NoRow("this is no text")
        if row.startswith("moor "):
            return self.take_up(row.partition(" ")[2])
        words = row.split(" ")
        if not is_row(words, len(self.places)):
            raise NoRow("this is no row that a desk is told")
        if words[0] == "most":
            self.bound = count_of(words[1])
            return "ok"
        if self.moor is None:
            raise NoMoor("no moor was told yet")
        if words[0] in ("now", "go", "home"):
            return self.walk(words)
        return self.answer(words)

    def take_up(self, text):
        told = read(text)
        self.moor = told[0]
        self.places = told[1]
        self.moves = told[2]
        self.here = self.moor[0]
        return "ok"

    def walk(self, words):
        if words[0] == "home":
            self.here = self.moor[0]
        if words[0] == "go":
            self.here = run(self.moor, self.here, [number_of(name, self.moves) for name in words[1:]])
        return spaced(self.here)

    def answer(self, words):
        first = words[0]
        if first == "show":
            return shown(self.moor, self.places, self.moves)
        if first == "balances":
            return parted(balances(self.moor[1], len(self.places)))
        if first == "dry":
            return parted_sets(least_dry(self.moor[1], len(self.places)), self.places)
        if first == "wet":
            return parted_sets(least_wet(self.moor[1], len(self.places)), self.places)
        moor = (self.here, self.moor[1])
        if first == "bounded":
            return told_bounded(bounded(moor, self.bound), self.moves)
        if first == "end":
            return told_end(end_of(moor, self.bound), self.moves)
        if first == "again":
            return told_again(again(moor, number_of(words[1], self.moves), self.bound), self.moves)
        if first == "cover":
            return told_cover(cover(moor, counts_of(words[1:]), self.bound), self.moves)
        if first == "reached":
            return told_reached(reached(moor, counts_of(words[1:]), self.bound), self.moves)
        place = number_of(words[1], self.places)
        if first == "peak":
            return spaced(peak(moor, place, self.bound))
        return told_climb(moor, growth(moor, self.bound), place, count_of(words[2]), self.moves)


def is_row(words, many):
    rest = words[1:]
    if words[0] in BARE_ROWS:
        return len(rest) == 0
    if words[0] in NAMED_ROWS:
        return len(rest) == 1
    if words[0] in COUNTED_ROWS:
        return are_counts(rest) and is_fitting(len(rest), many)
    if words[0] == "go":
        return len(rest) > 0
    if words[0] == "climb":
        return len(rest) == 2 and are_counts(rest[1:])
    return words[0] == "most" and len(rest) == 1 and is_bound(rest[0])


def is_bound(word):
    number = count_of(word)
    return number is not None and 1 <= number <= GREATEST_BOUND


def are_counts(words):
    return None not in counts_of(words)


def counts_of(words):
    return tuple([count_of(word) for word in words])


def is_fitting(how_many, many):
    # A desk without a moor has no places yet.
    return how_many == many if many > 0 else 1 <= how_many <= MOST_PLACES


def number_of(name, names):
    if name not in names:
        raise NoName("a name is unknown")
    return names.index(name)


def spaced(things):
    return " ".join([str(thing) for thing in things])


def named(first, numbers, names):
    return spaced([first] + names_of(numbers, names))


def names_of(numbers, names):
    return [names[number] for number in numbers]


def parted(lists):
    if len(lists) == 0:
        return "none"
    return " / ".join([spaced(things) for things in lists])


def parted_sets(sets, names):
    return parted([names_of(places, names) for places in sets])


def told_bounded(told, names):
    if told[0] == "lift":
        return named("lift", told[1], names) + " " + named("/", told[2], names)
    if told[0] == "all":
        return spaced(["all", len(told[1])])
    if told[0] == "weights":
        return spaced(("weights",) + told[1])
    return "open"


def told_end(told, names):
    if told[0] == "free":
        return named("free", [told[1]], names)
    if told[0] == "end":
        return named("end", told[1], names)
    if told[0] == "none":
        return spaced(["none", len(told[1])])
    return told[0]


def told_again(told, names):
    if told[0] == "dies":
        return named("dies", told[1], names)
    return told[0]


def told_cover(told, names):
    if told[0] == "row":
        return named("row", told[1], names)
    if told[0] == "wall":
        return "never"
    return spaced(told)


def told_reached(told, names):
    if told[0] == "row":
        return named("row", told[1], names)
    if told[0] == "open":
        return "open"
    return "no " + told[0]


def told_climb(moor, tree, place, height, names):
    if tree is None:
        return "open"
    for number, row in enumerate(tree):
        bound = row[0][place]
        if bound is None or bound >= height:
            return told_blocks(climb(moor, tree, number, height), names)
    return "never"


def told_blocks(blocks, names):
    kept = [named(f"{times} times", row, names) for row, times in blocks if len(row) > 0 and times > 0]
    return "by " + ", ".join(kept) if len(kept) > 0 else "by"
