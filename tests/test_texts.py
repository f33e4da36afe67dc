import random
import re
import unittest

from helpers import HUGE, PLAIN, TOP, made_moors
from tokenmoor.errors import NoText
from tokenmoor.moors import moor
from tokenmoor.texts import read, shown

FOLD = "place a 2; place b 0; place c 7; move fold takes 2 a 1 b puts 1 c; move back takes 1 c puts 1 b 2 a"
NAMES = ("takes", "puts", "place", "move", "a", "z", "abcdefgh", "zzzzzzzz", "moor", "none", "open", "times")
COUNT = "(?:0|[1-9][0-9]{0,9})"
NAME = "[a-z]{1,8}"
PLACE = f"place {NAME} {COUNT}"
PAIRS = f"(?: {COUNT} {NAME})*"
MOVE = f"move {NAME} takes{PAIRS} puts{PAIRS}"
TEXT = re.compile(f"{PLACE}(?:; {PLACE})*(?:; {MOVE})*", re.ASCII)


def plain_read(text):
    """By the form of point 43 written as one pattern, and what it asks beyond this; None where it is no such text."""
    if not TEXT.fullmatch(text):
        return None
    places = re.findall(f"(?:^|; )place ({NAME}) ({COUNT})(?=;|$)", text)
    moves = re.findall(f"; move ({NAME}) takes({PAIRS}) puts({PAIRS})(?=;|$)", text)
    names = [name for name, count in places]
    begin = tuple(int(count) for name, count in places)
    made = tuple((plain_counts(take, names), plain_counts(put, names)) for name, take, put in moves)
    called = [name for name, take, put in moves]
    if len(names) > 6 or len(moves) > 8 or max(begin) > TOP or None in [part for move in made for part in move]:
        return None
    if len(set(names)) < len(names) or len(set(called)) < len(called):
        return None
    return (begin, made), names, called


def plain_counts(text, names):
    words = text.split()
    counts = dict(zip(words[1::2], map(int, words[::2])))
    if len(counts) * 2 < len(words) or set(counts) - set(names):
        return None
    if any(not 1 <= count <= TOP for count in counts.values()):
        return None
    return tuple(counts.get(name, 0) for name in names)


def some_names(dice, how_many):
    names = set()
    while len(names) < how_many:
        made = "".join(dice.choice("abcxyz") for each in range(dice.randint(1, 8)))
        names.add(dice.choice(NAMES + (made,)))
    return dice.sample(sorted(names), how_many)


def with_names(seed, how_many):
    """Tuples (moor, places, moves): made moors with names."""
    dice = random.Random(seed)
    for begin, moves in made_moors(seed, how_many):
        yield (begin, moves), some_names(dice, len(begin)), some_names(dice, len(moves))


def spoiled(dice, text):
    """A text with some signs, words or parts left out, doubled, put in or in another place."""
    sign = dice.choice((" ", "; ", ""))
    parts = text.split(sign) if sign else list(text)
    at, other = dice.randrange(len(parts)), dice.randrange(len(parts))
    way = dice.randrange(4)
    if way == 0:
        parts.pop(at)
    elif way == 1:
        parts.insert(other, parts[at])
    elif way == 2:
        parts.insert(at, dice.choice(("0", "1", "9", "a", "A", " ", ";", "; ", "\t", "\n", "-", "+", ".", "_", "puts")))
    else:
        parts[at], parts[other] = parts[other], parts[at]
    return sign.join(parts)


class Read(unittest.TestCase):
    def reads(self, text, begin, moves, places, names):
        self.assertEqual(read(text), ((begin, moves), places, names))
        self.assertEqual(plain_read(text), ((begin, moves), places, names))

    def test_an_ordinary_one(self):
        moves = (((2, 1, 0), (0, 0, 1)), ((0, 0, 1), (2, 1, 0)))
        self.reads(FOLD, (2, 0, 7), moves, ["a", "b", "c"], ["fold", "back"])

    def test_one_place_and_no_moves(self):
        self.reads("place a 0", (0,), (), ["a"], [])
        self.reads("place abcdefgh 1000000000", (TOP,), (), ["abcdefgh"], [])

    def test_six_places_and_eight_moves(self):
        places = ["a", "b", "c", "d", "e", "f"]
        names = ["g", "h", "i", "j", "k", "l", "m", "n"]
        text = "; ".join(
            [f"place {name} {at}" for at, name in enumerate(places)]
            + [f"move {name} takes {at + 1} f puts 1000000000 a" for at, name in enumerate(names)])
        moves = tuple(((0, 0, 0, 0, 0, at + 1), (TOP, 0, 0, 0, 0, 0)) for at in range(8))
        self.reads(text, (0, 1, 2, 3, 4, 5), moves, places, names)

    def test_nothing_taken_or_put(self):
        self.reads("place a 1; move m takes puts", (1,), (((0,), (0,)),), ["a"], ["m"])
        self.reads("place a 1; move m takes 1 a puts", (1,), (((1,), (0,)),), ["a"], ["m"])
        self.reads("place a 1; move m takes puts 1 a", (1,), (((0,), (1,)),), ["a"], ["m"])

    def test_what_is_taken_and_put_in_any_order(self):
        text = "place a 0; place b 0; place c 0; move m takes 3 c 1 a puts 5 b 4 a"
        self.reads(text, (0, 0, 0), (((1, 0, 3), (4, 5, 0)),), ["a", "b", "c"], ["m"])
        text = "place a 0; place b 0; place c 0; move m takes 1 a 3 c puts 4 a 5 b"
        self.reads(text, (0, 0, 0), (((1, 0, 3), (4, 5, 0)),), ["a", "b", "c"], ["m"])

    def test_names_that_are_words_of_texts(self):
        text = "place takes 1; place puts 2; place place 3; place move 4; "
        text += "move takes takes 1 takes 2 puts puts 3 move 4 place; move puts takes 1 puts puts 2 puts; "
        text += "move move takes puts 7 takes; move place takes puts"
        moves = (((1, 2, 0, 0), (0, 0, 4, 3)), ((0, 1, 0, 0), (0, 2, 0, 0)), ((0,) * 4, (7, 0, 0, 0)), ((0,) * 4,) * 2)
        names = ["takes", "puts", "move", "place"]
        self.reads(text, (1, 2, 3, 4), moves, ["takes", "puts", "place", "move"], names)

    def test_a_place_and_a_move_of_one_name(self):
        self.reads("place a 1; move a takes 1 a puts 2 a", (1,), (((1,), (2,)),), ["a"], ["a"])

    def test_a_place_both_taken_from_and_put_on(self):
        self.reads("place a 5; move m takes 2 a puts 2 a", (5,), (((2,), (2,)),), ["a"], ["m"])

    def test_counts(self):
        for count in (0, 1, 9, 10, 100, 999999999, TOP):
            self.reads(f"place a {count}", (count,), (), ["a"], [])
        for count in (1, 9, 10, 100, 999999999, TOP):
            text = f"place a 0; move m takes {count} a puts {count} a"
            self.reads(text, (0,), (((count,), (count,)),), ["a"], ["m"])

    def test_names_of_one_and_of_eight_letters(self):
        for name in ("a", "z", "abcdefgh", "stuvwxyz", "aaaaaaaa"):
            self.reads(f"place {name} 1; move {name} takes 1 {name} puts", (1,), (((1,), (0,)),), [name], [name])

    def test_made_ones_in_any_order(self):
        dice = random.Random(191)
        for made, places, moves in with_names(192, 100):
            parts = [f"place {name} {count}" for name, count in zip(places, made[0])]
            for name, move in zip(moves, made[1]):
                pairs = [[f" {count} {place}" for count, place in zip(part, places) if count] for part in move]
                dice.shuffle(pairs[0])
                dice.shuffle(pairs[1])
                parts.append(f"move {name} takes{''.join(pairs[0])} puts{''.join(pairs[1])}")
            self.reads("; ".join(parts), made[0], made[1], places, moves)

    def test_kinds(self):
        told = read(FOLD)
        self.assertEqual([type(told)] + [type(part) for part in told], [tuple, tuple, list, list])
        self.assertEqual(moor(told[0][0], told[0][1]), told[0])
        self.assertEqual([type(part) for part in told[0]], [tuple, tuple])
        self.assertTrue(all(type(part) is tuple for move in told[0][1] for part in (move,) + move))
        self.assertTrue(all(type(number) is int for number in told[0][0]))


class Refused(unittest.TestCase):
    def refused(self, *texts):
        for text in texts:
            with self.assertRaises(NoText, msg=repr(text)):
                read(text)
            if isinstance(text, str):
                self.assertIsNone(plain_read(text), text)

    def test_counts_not_written_so(self):
        for count in (
                "00", "01", "007", "-1", "-0", "+1", "+0", "1.0", "1.", ".5", "1e3", "1_000", "0x1", "a", "",
                "1000000001", "2000000000", "9999999999", "10000000000", "00000000001", "1,0", "\u0661", "\u00b2",
                "\uff11", "1\n", "1\t", "\t1", "None", "one", "9" * 400, "9" * 4500, "0" * 4500):
            self.refused(
                f"place a {count}", f"place a {count}; place b 1", f"place a 1; place b {count}",
                f"place a 1; move m takes {count} a puts", f"place a 1; move m takes puts {count} a",
                f"place a 1; place b 1; move m takes 1 b {count} a puts")

    def test_nought_where_a_count_from_1_on_must_stand(self):
        self.refused(
            "place a 1; move m takes 0 a puts", "place a 1; move m takes puts 0 a",
            "place a 1; place b 1; move m takes 1 a 0 b puts", "place a 1; place b 1; move m takes puts 1 a 0 b")

    def test_names_not_written_so(self):
        for name in (
                "", "abcdefghi", "A", "aB", "Abcdefgh", "1", "a1", "a_b", "_", "a-b", "a.", "\u00e4", "\u03b1",
                "\u00df",
                "\u017f", "\uff41", "a\t", "a\n", "\n", "a" * 9, "a" * 4000, ";", "a;"):
            self.refused(
                f"place {name} 1", f"place a 1; place {name} 1", f"place a 1; move {name} takes puts",
                f"place a 1; move m takes 1 {name} puts", f"place a 1; move m takes puts 1 {name}")

    def test_a_place_told_twice_or_unknown(self):
        self.refused(
            "place a 1; place a 1", "place a 1; place b 1; place a 2",
            "place a 1; move m takes 1 a 1 a puts", "place a 1; move m takes puts 1 a 1 a",
            "place a 1; place b 1; move m takes 1 a 1 b 2 a puts", "place a 1; move m takes 1 b puts",
            "place a 1; move m takes puts 1 b", "place a 1; move b takes 1 b puts", "place a 1; move m takes 1 m puts")

    def test_two_moves_of_one_name(self):
        self.refused(
            "place a 1; move m takes puts; move m takes puts",
            "place a 1; move m takes puts; move n takes puts; move m takes 1 a puts")

    def test_a_place_behind_a_move(self):
        self.refused(
            "place a 1; move m takes puts; place b 1", "move m takes puts; place a 1",
            "place a 1; move m takes puts; place b 1; move n takes puts")

    def test_how_many_places_and_moves(self):
        letters = "abcdefghi"
        places = [f"place {name} 1" for name in letters]
        moves = [f"move {name} takes puts" for name in letters]
        self.assertEqual(len(read("; ".join(places[:6]))[1]), 6)
        self.assertEqual(len(read("; ".join(places[:6] + moves[:8]))[2]), 8)
        self.refused(
            "", "move m takes puts", "; ".join(places[:7]), "; ".join(places[:7] + moves[:1]), "; ".join(places),
            "; ".join(places[:1] + moves), "; ".join(places[:6] + moves), "; ".join(moves[:8]))

    def test_words_lacking_or_too_many(self):
        self.refused(
            "place", "place a", "place 1", "place a 1 1", "place a b 1", "a 1", "1 a", "place 1 a", "places a 1",
            "Place a 1", "place a 1; move", "place a 1; move m", "place a 1; move m takes", "place a 1; move m puts",
            "place a 1; move takes puts", "place a 1; move m takes 1 a", "place a 1; move m puts takes",
            "place a 1; move m puts 1 a takes 1 a", "place a 1; move m takes 1 puts", "place a 1; move m takes a puts",
            "place a 1; move m takes puts 1", "place a 1; move m takes puts a", "place a 1; move m takes puts puts",
            "place a 1; move m takes takes puts", "place a 1; move m takes puts 1 a puts",
            "place a 1; move m takes puts 1 a 1", "place a 1; move m takes 1 a 1 puts",
            "place a 1; move m n takes puts",
            "place a 1; move m takes a 1 puts", "place a 1; move m takes puts 1 a puts 1 a", "place a 1; m takes puts",
            "place a 1; moves m takes puts", "place a 1; move m Takes puts", "place a 1; move m takes Puts",
            "place a 1; move m take puts", "place a 1; move m takes put", "place a 1; move m takes 1 puts puts 1 puts",
            "place puts 1; move m takes 1 puts", "place takes 1; move m takes 1 takes")

    def test_blanks(self):
        self.refused(
            " ", "  ", " place a 1", "place a 1 ", "place  a 1", "place a  1", "place a 1;  place b 1",
            "place a 1 ; place b 1", "place a 1;place b 1", "place a 1; place b 1 ", "place a 1; move m takes  puts",
            "place a 1; move m takes puts ", "place a 1; move m  takes puts", "place a 1; move m takes 1  a puts",
            "place\ta 1", "place a\t1", "place a 1\t", "\tplace a 1", "place a 1\n", "\nplace a 1",
            "place a 1;\nplace b 1",
            "place a 1;\tplace b 1", "place a 1; place b 1\n", "place a 1; move m takes puts\n", "place a\n1",
            "place\u00a0a 1", "place a 1;\u00a0place b 1", "place a 1\r\n", "place a 1\x00", "place a 1\x0c")

    def test_parts(self):
        self.refused(
            ";", "; ", "place a 1;", "place a 1; ", "; place a 1", "place a 1;; place b 1", "place a 1; ; place b 1",
            "place a 1; place b 1;", "place a 1; place b 1; ", "place a 1, place b 1", "place a 1. place b 1",
            "place a 1 place b 1", "place a 1: place b 1", "place a 1; move m takes puts;", "place a 1; moor",
            "place a 1; move m takes puts;move n takes puts", "place a 1; move m takes; puts")

    def test_what_is_no_text_at_all(self):
        self.refused(
            None, 0, 1, True, False, b"place a 1", bytearray(b"place a 1"), [], ["place a 1"], ("place", "a", "1"),
            {"place": "a"}, 1.5, object(), str, ((1,), ()))

    def test_spoiled_texts(self):
        dice = random.Random(193)
        seen = {True: 0, False: 0}
        texts = [FOLD] * 100 + [shown(*made) for made in with_names(194, 60)]
        for text in texts:
            for each in range(20):
                bad = spoiled(dice, text)
                wanted = plain_read(bad)
                seen[wanted is None] += 1
                if wanted is None:
                    self.refused(bad)
                else:
                    self.assertEqual(read(bad), wanted, bad)
        self.assertTrue(min(seen.values()) > 300, seen)


class Shown(unittest.TestCase):
    def test_ordinary_ones(self):
        moves = (((2, 1, 0), (0, 0, 1)), ((0, 0, 1), (2, 1, 0)))
        text = "place a 2; place b 0; place c 7; move fold takes 2 a 1 b puts 1 c; move back takes 1 c puts 2 a 1 b"
        self.assertEqual(shown(((2, 0, 7), moves), ["a", "b", "c"], ["fold", "back"]), text)
        self.assertEqual(shown(((0,), ()), ["a"], []), "place a 0")
        self.assertEqual(shown(((0,), (((0,), (0,)),)), ["a"], ["m"]), "place a 0; move m takes puts")
        self.assertEqual(shown(((0,), (((0,), (TOP,)),)), ["a"], ["m"]), "place a 0; move m takes puts 1000000000 a")
        self.assertEqual(shown(((TOP,), (((1,), (0,)),)), ["a"], ["a"]), "place a 1000000000; move a takes 1 a puts")

    def test_a_beginning_above_the_greatest_count(self):
        self.assertEqual(shown(((TOP + 1,), ()), ["a"], []), "place a 1000000001")
        self.assertEqual(shown(((HUGE, 0), ()), ["a", "b"], []), f"place a 1{'0' * 298}7; place b 0")
        with self.assertRaises(NoText):
            read(shown(((TOP + 1,), ()), ["a"], []))

    def test_a_text_in_its_order_is_shown_as_it_was(self):
        for text in (
                "place a 0", "place a 1; place b 2", "place b 1; place a 2; move m takes 1 b 2 a puts 3 b 4 a",
                "place puts 1; place takes 1000000000; move puts takes 1 puts 1 takes puts 1 puts; move a takes puts"):
            self.assertEqual(shown(*read(text)), text)

    def test_a_text_in_another_order_is_shown_in_its_own(self):
        self.assertEqual(
            shown(*read("place b 1; place a 2; move m takes 2 a 1 b puts 4 a 3 b")),
            "place b 1; place a 2; move m takes 1 b 2 a puts 3 b 4 a")

    def test_made_ones_read_again(self):
        for made, places, moves in with_names(195, 150):
            text = shown(made, places, moves)
            self.assertIs(type(text), str)
            self.assertEqual(read(text), (made, places, moves))
            self.assertEqual(plain_read(text), (made, places, moves))
            self.assertEqual(shown(*read(text)), text)

    def test_plain_ones_read_again(self):
        for begin, moves in PLAIN:
            places = ["a", "b", "c", "d", "e", "f"][:len(begin)]
            names = ["a", "b", "c", "d", "e", "f", "g", "h"][:len(moves)]
            self.assertEqual(read(shown((begin, moves), places, names)), ((begin, moves), places, names))


if __name__ == "__main__":
    unittest.main()
