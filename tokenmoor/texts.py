"""Texts that tell a moor, read and shown."""

from tokenmoor.errors import NoText
from tokenmoor.moors import GREATEST_COUNT, MOST_MOVES, MOST_PLACES

FIGURES = "0123456789"
LETTERS = "abcdefghijklmnopqrstuvwxyz"
LONGEST_NAME = 8


def read(text):
    if not isinstance(text, str):
        raise NoText("this is no text")
    begin = {}
    moves = {}
    for part in text.split("; "):
        words = part.split(" ")
        if words[0] == "move":
            read_move(words, begin, moves)
        elif words[0] == "place" and len(moves) == 0:
            read_place(words, begin)
        else:
            raise NoText("a part tells no place, and no move behind the places")
    if not 1 <= len(begin) <= MOST_PLACES or len(moves) > MOST_MOVES:
        raise NoText("there are too few or too many places, or too many moves")
    moor = (tuple(begin.values()), tuple(moves.values()))
    return (moor, list(begin), list(moves))


def read_place(words, begin):
    if len(words) != 3:
        raise NoText("a place has too few or too many words")
    must_be_new_name(words[1], begin)
    begin[words[1]] = read_count(words[2], 0)


def read_move(words, begin, moves):
    middle = place_of_puts(words)
    if words[2:3] != ["takes"] or middle is None:
        raise NoText("a move doesn't tell what it takes and what it puts")
    must_be_new_name(words[1], moves)
    moves[words[1]] = (read_counts(words[3:middle], begin), read_counts(words[middle + 1:], begin))


def place_of_puts(words):
    # Places may be called `puts`, too, but a name stands behind its number: only each second word is looked at.
    for at in range(3, len(words), 2):
        if words[at] == "puts":
            return at
    return None


def read_counts(words, begin):
    if len(words) % 2 == 1:
        raise NoText("a number stands without its place")
    counts = {}
    for number, name in zip(words[::2], words[1::2]):
        if name not in begin or name in counts:
            raise NoText("a place is unknown, or told twice")
        counts[name] = read_count(number, 1)
    return tuple([counts.get(name, 0) for name in begin])


def read_count(word, fewest):
    number = count_of(word)
    if number is None or number < fewest:
        raise NoText("a number is no count as it must be written")
    return number


def count_of(word):
    """The count that a word writes, None where it writes none."""
    # The length comes first: Python makes no number of some thousand figures.
    if len(word) > len(str(GREATEST_COUNT)) or not is_made_of(word, FIGURES):
        return None
    number = int(word)
    # Any other way to write a number of figures has a 0 too many.
    return number if str(number) == word and number <= GREATEST_COUNT else None


def must_be_new_name(word, known):
    if not is_made_of(word, LETTERS) or len(word) > LONGEST_NAME:
        raise NoText("a name has other signs than small letters, none or too many")
    if word in known:
        raise NoText("two places or two moves have one name")


def is_made_of(word, signs):
    return len(word) > 0 and all([sign in signs for sign in word])


def shown(moor, places, moves):
    parts = [f"place {name} {count}" for name, count in zip(places, moor[0])]
    for name, move in zip(moves, moor[1]):
        words = ["move", name, "takes"] + shown_counts(move[0], places) + ["puts"] + shown_counts(move[1], places)
        parts.append(" ".join(words))
    return "; ".join(parts)


def shown_counts(counts, places):
    return [f"{count} {name}" for name, count in zip(places, counts) if count > 0]
