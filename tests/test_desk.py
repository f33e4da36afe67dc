import copy
import random
import unittest

from helpers import TOP, made_moors, plain_falling, plain_flood, plain_growth, plain_tops, single_moors, walk, wander
from slow import (
    all_sets, dry_break, plain_again, plain_cover, plain_end_of, plain_least_sets, plain_lift, plain_reached, wet_break)
from tokenmoor.balances import balances
from tokenmoor.ceilings import level
from tokenmoor.desk import Desk, told_blocks
from tokenmoor.errors import MoorError, NoMoor, NoName, NoRow, NoText, Stuck
from tokenmoor.texts import read, shown

# A counter is carried from a to b; on its way back it becomes two.
GROWS = "place a 2; place b 0; move fold takes 1 a puts 1 b; move back takes 1 b puts 2 a"
RING = "place a 1; place b 0; move go takes 1 a puts 1 b; move back takes 1 b puts 1 a"
CARRY = "move go takes 1 a puts 1 b"
MAKE = "place a 0; place b 3; move make takes puts 1 a; move melt takes 2 b puts 1 b"
PLACE_NAMES = ["a", "go", "now", "puts", "row", "place"]
MOVE_NAMES = ["a", "go", "open", "takes", "row", "move", "times", "end"]
BARE = ("now", "home", "show", "bounded", "end", "balances", "dry", "wet")


def desk_with(text, *rows):
    """A desk that was told the moor and these rows."""
    desk = Desk()
    for row in ("moor " + text,) + rows:
        desk.say(row)
    return desk


def ring_of(counters, rest="; move back takes 1 b puts 1 a"):
    """A moor of one stand more than it has counters."""
    return f"place a {counters}; place b 0; {CARRY}{rest}"


def answer(text, row, *before):
    return desk_with(text, *before).say(row)


class Rows(unittest.TestCase):
    def test_a_moor_is_told(self):
        desk = Desk()
        self.assertEqual(desk.say("moor " + GROWS), "ok")
        self.assertEqual(desk.say("now"), "2 0")
        self.assertEqual(desk.say("moor place a 7"), "ok")
        self.assertEqual(desk.say("now"), "7")

    def test_a_moor_stands_at_its_beginning_when_it_is_told_again(self):
        self.assertEqual(answer(GROWS, "now", "go fold", "moor " + GROWS), "2 0")

    def test_the_bound(self):
        desk = Desk()
        for bound in range(1, 31):
            self.assertEqual(desk.say(f"most {bound}"), "ok")
            self.assertEqual(desk.say("moor " + ring_of(bound - 1)), "ok")
            self.assertEqual(desk.say("end"), f"none {bound}" if bound > 1 else "end")
            desk.say("moor " + ring_of(bound))
            self.assertEqual(desk.say("end"), "kept")

    def test_the_bound_is_20_at_first_and_stays_when_another_moor_is_told(self):
        desk = desk_with(ring_of(19))
        self.assertEqual(desk.say("bounded"), "all 20")
        desk.say("moor " + ring_of(20))
        self.assertNotEqual(desk.say("bounded").split()[0], "all")
        desk.say("most 21")
        self.assertEqual(desk.say("bounded"), "all 21")
        desk.say("moor " + ring_of(20))
        self.assertEqual(desk.say("bounded"), "all 21")
        desk.say("moor " + ring_of(21))
        self.assertNotEqual(desk.say("bounded").split()[0], "all")

    def test_now_go_and_home(self):
        desk = desk_with(GROWS)
        self.assertEqual(desk.say("now"), "2 0")
        self.assertEqual(desk.say("go fold"), "1 1")
        self.assertEqual(desk.say("go back fold fold"), "1 2")
        self.assertEqual(desk.say("now"), "1 2")
        self.assertEqual(desk.say("home"), "2 0")
        self.assertEqual(desk.say("now"), "2 0")
        self.assertEqual(answer("place a 3; place b 0; place c 12", "now"), "3 0 12")
        self.assertEqual(answer("place a 3; place b 0; place c 12", "home"), "3 0 12")

    def test_counts_above_the_greatest_one(self):
        desk = desk_with("place a 1000000000; move m takes puts 1000000000 a", "go m m m")
        self.assertEqual(desk.say("now"), "4000000000")
        self.assertEqual(desk.say("cover 1000000000"), "row")
        self.assertEqual(desk.say("peak a"), "grows")
        self.assertEqual(desk.say("show"), "place a 1000000000; move m takes puts 1000000000 a")

    def test_show_tells_the_moor_that_was_told(self):
        desk = desk_with("place b 1; place a 2; move m takes 2 a 1 b puts", "go m")
        self.assertEqual(desk.say("now"), "0 0")
        self.assertEqual(desk.say("show"), "place b 1; place a 2; move m takes 1 b 2 a puts")
        self.assertEqual(answer("place a 0", "show"), "place a 0")

    def test_cover(self):
        self.assertEqual(answer(GROWS, "cover 3 1"), "row fold fold back fold back")
        self.assertEqual(answer(GROWS, "cover 2 0"), "row")
        self.assertEqual(answer(GROWS, "cover 0 0"), "row")
        self.assertEqual(answer(RING, "cover 2 0"), "never")
        self.assertEqual(answer(GROWS, "cover 3 1", "most 1"), "open 1")
        self.assertEqual(answer(GROWS, "cover 3 1", "most 3"), "open 2")
        self.assertEqual(answer("place a 0; move m takes puts 1 a", "cover 5", "most 4"), "open 4")
        self.assertEqual(answer("place a 0", "cover 1000000000"), "never")

    def test_peak(self):
        self.assertEqual(answer(GROWS, "peak a"), "grows")
        self.assertEqual(answer(GROWS, "peak b"), "grows")
        self.assertEqual(answer(RING, "peak b"), "at most 1")
        self.assertEqual(answer("place a 1000000000", "peak a"), "at most 1000000000")
        self.assertEqual(answer(RING, "peak b", "most 1"), "open")

    def test_climb(self):
        self.assertEqual(answer(GROWS, "climb a 2"), "by")
        self.assertEqual(answer(GROWS, "climb b 0"), "by")
        self.assertEqual(answer(GROWS, "climb b 1"), "by 1 times fold")
        self.assertEqual(answer(RING, "climb b 2"), "never")
        self.assertEqual(answer(RING, "climb a 2"), "never")
        self.assertEqual(answer(GROWS, "climb b 1", "most 1"), "open")
        self.assertEqual(answer("place a 1", "climb a 1"), "by")
        self.assertEqual(answer("place a 1", "climb a 2"), "never")

    def test_climb_takes_the_first_cap_that_does_it(self):
        # The third cap has two counters at b, just as many as are asked for; one more needs a cap with None.
        self.assertEqual(answer(GROWS, "climb b 2"), "by 1 times fold, 1 times fold")
        told = answer(GROWS, "climb b 3")
        self.assertIn(" times fold back", told)

    def test_blocks_without_moves_or_with_times_0_are_left_out(self):
        names = ["a", "b", "c"]
        self.assertEqual(told_blocks([([0, 1], 3), ([2], 1)], names), "by 3 times a b, 1 times c")
        blocks = [([], 3), ([0, 1], 3), ([0], 0), ([2], 1), ([], 0)]
        self.assertEqual(told_blocks(blocks, names), "by 3 times a b, 1 times c")
        self.assertEqual(told_blocks([([], 3), ([1], 0)], names), "by")
        self.assertEqual(told_blocks([], names), "by")

    def test_bounded(self):
        self.assertEqual(answer(RING, "bounded"), "all 2")
        self.assertEqual(answer("place a 0", "bounded"), "all 1")
        self.assertEqual(answer(GROWS, "bounded"), "lift / fold back")
        text = "place a 1; place b 0; move go takes 1 a puts 1 b; move more takes 1 b puts 2 b"
        self.assertEqual(answer(text, "bounded"), "lift go / more")
        self.assertEqual(answer(text, "bounded", "most 1"), "open")
        weights = answer("place a 3; place b 0; move go takes 1 a puts 2 b", "bounded", "most 1").split(" ")
        self.assertEqual((weights[0], len(weights)), ("weights", 3))
        self.assertTrue(int(weights[1]) >= 2 * int(weights[2]) > 0)

    def test_end(self):
        self.assertEqual(answer(MAKE, "end"), "free make")
        self.assertEqual(answer("place a 0; place b 0; " + CARRY, "end"), "end")
        self.assertEqual(answer("place a 2; place b 0; " + CARRY, "end"), "end go go")
        self.assertEqual(answer(RING, "end"), "none 2")
        self.assertEqual(answer(GROWS, "end"), "kept")
        self.assertEqual(answer("place a 2; place b 0; " + CARRY, "end", "most 2"), "open")

    def test_again(self):
        self.assertEqual(answer("place a 2; place b 0; " + CARRY, "again go"), "dies go go")
        self.assertEqual(answer("place a 0; place b 0; " + CARRY, "again go"), "dies")
        self.assertEqual(answer(RING, "again back"), "lives")
        self.assertEqual(answer(GROWS, "again back"), "always")
        self.assertEqual(answer(GROWS, "again back", "most 1"), "open")

    def test_reached(self):
        self.assertEqual(answer(GROWS, "reached 2 0"), "row")
        self.assertEqual(answer(GROWS, "reached 2 1"), "row fold fold back")
        self.assertEqual(answer(GROWS, "reached 1000000000 1"), "open")
        self.assertEqual(answer(RING, "reached 1 1"), "no all")
        self.assertEqual(answer(ring_of(5), "reached 3 3", "most 2"), "no balance")
        text = "place a 0; place b 0; move m takes puts 1 a; move n takes 1 b puts 2 b"
        self.assertEqual(answer(text, "reached 0 1"), "no dry")
        self.assertEqual(answer(MAKE, "reached 0 0"), "no wet")
        self.assertEqual(answer(MAKE, "reached 0 5"), "no wall")

    def test_balances(self):
        self.assertEqual(answer(GROWS, "balances"), "none")
        self.assertEqual(answer(RING, "balances"), "1 1")
        self.assertEqual(answer("place a 1; place b 2", "balances"), "1 0 / 0 1")
        self.assertEqual(answer("place a 0; place b 0; place c 0; move m takes 4 b puts 2 a 6 c", "balances"),
                         "1 2 1 / 0 3 2")
        self.assertEqual(answer("place a 0; place b 0; move m takes puts 2 a 3 b", "balances"), "3 -2")

    def test_dry_and_wet(self):
        self.assertEqual(answer(GROWS, "dry"), "a b")
        self.assertEqual(answer(GROWS, "wet"), "a b")
        text = "place b 0; place a 0; place c 5; move go takes 1 b puts 1 a"
        self.assertEqual(answer(text, "dry"), "b / c")
        self.assertEqual(answer(text, "wet"), "a / c")
        text = "place b 0; place a 0; place c 5; move go takes 1 b puts 1 a; move back takes 1 a puts 1 b"
        self.assertEqual(answer(text, "dry"), "b a / c")
        self.assertEqual(answer(text, "wet"), "b a / c")
        self.assertEqual(answer("place a 0; move m takes puts 1 a", "dry"), "none")
        self.assertEqual(answer("place a 0; move m takes 1 a puts", "wet"), "none")

    def test_questions_are_asked_from_where_it_is_now(self):
        text = "place a 2; place b 0; " + CARRY
        for row, here, there in (
                ("cover 1 1", "row go", "never"), ("peak a", "at most 2", "at most 0"), ("bounded", "all 3", "all 1"),
                ("end", "end go go", "end"), ("again go", "dies go go", "dies"), ("reached 2 0", "row", "no all"),
                ("climb a 2", "by", "never"), ("balances", "1 1", "1 1"), ("dry", "a", "a"), ("wet", "b", "b"),
                ("show", text, text)):
            desk = desk_with(text)
            self.assertEqual(desk.say(row), here)
            desk.say("go go go")
            self.assertEqual(desk.say(row), there)
            self.assertEqual(desk.say("now"), "0 2")
            desk.say("home")
            self.assertEqual(desk.say(row), here)

    def test_questions_are_asked_by_the_bound(self):
        desk = desk_with(ring_of(5))
        told = []
        for bound in (6, 5, 1):
            desk.say(f"most {bound}")
            rows = ("cover 0 5", "peak a", "climb b 5", "bounded", "end", "again go", "reached 0 5")
            told.append([desk.say(row).split(" ")[0] for row in rows])
        self.assertEqual(told, [
            ["row", "at", "by", "all", "none", "lives", "row"],
            ["row", "open", "open", "weights", "kept", "always", "open"],
            ["open", "open", "open", "weights", "kept", "open", "open"]])

    def test_a_place_and_a_move_of_one_name(self):
        text = "place a 0; place b 3; move b takes 1 b puts 1 a; move a takes 1 a puts"
        self.assertEqual(answer(text, "peak a"), "at most 3")
        self.assertEqual(answer(text, "go b a"), "0 2")
        self.assertEqual(answer(text, "climb a 2"), "by 1 times b, 1 times b")

    def test_two_desks_keep_apart(self):
        one, other = Desk(), Desk()
        one.say("moor " + GROWS)
        with self.assertRaises(NoMoor):
            other.say("now")
        other.say("moor " + RING)
        one.say("most 1")
        one.say("go fold")
        self.assertEqual(one.say("now"), "1 1")
        self.assertEqual(other.say("now"), "1 0")
        self.assertEqual(other.say("bounded"), "all 2")
        self.assertEqual(one.say("bounded"), "open")
        other.say("go go")
        self.assertEqual(one.say("now"), "1 1")
        self.assertEqual(one.say("show"), GROWS)
        self.assertEqual(other.say("show"), RING)

    def test_two_desks_told_one_moor_keep_apart(self):
        one, other = desk_with(GROWS), desk_with(GROWS)
        one.say("go fold")
        self.assertEqual(other.say("now"), "2 0")
        self.assertEqual(one.say("now"), "1 1")

    def test_the_same_is_told_when_asked_again(self):
        desk = desk_with(GROWS)
        rows = (
            "now", "show", "cover 3 1", "peak a", "climb b 7", "bounded", "end", "again fold", "reached 7 7",
            "balances",
            "dry", "wet")
        first = [desk.say(row) for row in rows]
        for other in rows:
            desk.say(other)
            self.assertEqual([desk.say(row) for row in rows], first)


class Refusals(unittest.TestCase):
    def refused(self, error, row, desk):
        before = copy.deepcopy(vars(desk))
        with self.assertRaises(error, msg=repr(row)) as caught:
            desk.say(row)
        self.assertIs(type(caught.exception), error, row)
        self.assertEqual(vars(desk), before, row)
        return caught.exception

    def both(self, error, *rows):
        """Refused so whether a moor was told or not."""
        for row in rows:
            self.refused(error, row, Desk())
            self.refused(error, row, desk_with(GROWS))
            self.refused(error, row, desk_with(GROWS, "go fold", "most 3"))

    def test_what_is_no_text(self):
        self.both(NoRow, None, 0, 1, True, b"now", bytearray(b"now"), [], ["now"], ("now",), {"now": 1}, 1.5, Desk, str)

    def test_another_first_word(self):
        self.both(
            NoRow, "", "Now", "NOW", "nows", "no", "moors", "moor", "mooring place a 1", "Moor place a 1", "where",
            "goto",
            "ends", "say now", "a", "fold", "2 0", "open", "never", "walled", "ring", "again:", "now;",
            "moor;place a 1",
            "moor\tplace a 1", "moor\nplace a 1", "Most 5", "bound 20", "least 5", "most5", " 5", "fold 5", "covers 1 1",
            "tell a", "rise a 1", "gone fold")

    def test_too_few_and_too_many_words(self):
        self.both(NoRow, *[row + " a" for row in BARE], *[row + " 1" for row in BARE], *[row + " now" for row in BARE])
        self.both(
            NoRow, "most", "most 1 1", "go", "cover", "peak", "peak a a", "peak a b", "climb", "climb a", "climb 1",
            "climb a 1 1", "climb a b 1", "again", "again fold fold", "reached", "again fold back")

    def test_blanks(self):
        self.both(NoRow, " ", "  ", *[" " + row for row in BARE], *[row + " " for row in BARE])
        self.both(
            NoRow, " moor " + GROWS, " most 1", "most  1", "most 1 ", "most ", " go fold", " cover 1 1", "cover  1 1",
            "cover 1  1", "cover 1 1 ", "cover ", "cover  ", "reached 1 1 ", "reached  1", "peak a ", "peak  a",
            " peak a",
            "again fold ", "again  fold", "climb a  1", "climb a 1 ", "climb  a 1", "climb a ", "climb  ", "now\n",
            "now\t",
            "\nnow", "most 1\n", "most\t1", "cover 1 1\n", "cover 1\t1", "climb a 1\n", "go\tfold", "peak\ta")

    def test_a_word_without_signs_in_a_name_s_place_names_nothing(self):
        for row in ("go ", "go  ", "go fold ", "go  fold", "go fold  back", "peak ", "again ", "climb  1"):
            self.refused(NoMoor, row, Desk())
            self.refused(NoName, row, desk_with(GROWS))

    def test_counts_not_written_so(self):
        for count in (
                "", "00", "01", "-1", "+1", "1.0", "a", "1000000001", "9999999999", "10000000000", "1e3", "1_0",
                "\u0661",
                "\u00b2", "one", "1;", "9" * 400, "9" * 4500, "1\n"):
            self.both(
                NoRow, f"most {count}", f"cover {count}", f"cover {count} 1", f"cover 1 {count}", f"reached {count} 1",
                f"reached 1 {count}", f"climb a {count}", f"climb zzz {count}")

    def test_bounds(self):
        for bound in ("0", "31", "30.", "030", "05", "1000000000", "-5", "100", "a"):
            self.both(NoRow, f"most {bound}")
        for desk in (Desk(), desk_with(GROWS)):
            self.assertEqual(desk.say("most 1"), "ok")
            self.assertEqual(desk.say("most 30"), "ok")

    def test_counts_as_many_as_places(self):
        for many in range(1, 7):
            text = "; ".join(f"place {name} 1" for name in PLACE_NAMES[:many])
            for told in range(1, 9):
                for word in ("cover", "reached"):
                    row = word + " 1" * told
                    if told == many:
                        self.assertEqual(answer(text, row), "row")
                    else:
                        self.refused(NoRow, row, desk_with(text))
                    self.refused(NoMoor if told <= 6 else NoRow, row, Desk())

    def test_no_moor_was_told(self):
        for row in BARE + (
                "go a", "go a b c", "cover 1", "cover 1 2 3 4 5 6", "peak a", "peak 1", "climb a 1", "climb A 0",
                "again a",
                "reached 0", "reached 1 2 3 4 5 6"):
            self.refused(NoMoor, row, Desk())
            desk = Desk()
            self.refused(NoText, "moor place", desk)
            self.refused(NoMoor, row, desk)
            desk.say("most 3")
            self.refused(NoMoor, row, desk)

    def test_names(self):
        for row in (
                "go b", "go a", "go fold b", "go fold fold b", "go b fold", "go Fold", "go 0", "peak c", "peak fold",
                "peak A", "peak 0", "again a", "again c", "again 0", "climb fold 1", "climb c 0", "climb c 1000000000",
                "climb 0 0", "go fold\n", "peak a\t", "peak \u00e4", "go fold;"):
            self.refused(NoName, row, desk_with(GROWS))
            self.refused(NoMoor, row, Desk())

    def test_texts(self):
        self.both(
            NoText, "moor ", "moor  ", "moor a", "moor  " + GROWS, "moor " + GROWS + " ", "moor place a 01", "moor now",
            "moor place a 1; place a 1", "moor moor " + GROWS, "moor move m takes puts", "moor place a 1\n", "moor \n",
            "moor place a " + "9" * 4500)

    def test_stuck(self):
        for row, at in (
                ("go back", 0), ("go fold fold fold", 2), ("go fold back back", 2), ("go fold fold back back back", 4),
                ("go" + " fold back" * 20 + " back", 40)):
            self.assertEqual(self.refused(Stuck, row, desk_with(GROWS)).at, at)
        desk = desk_with(GROWS, "go fold fold")
        self.assertEqual(self.refused(Stuck, "go fold", desk).at, 0)
        self.assertEqual(self.refused(Stuck, "go back back fold fold fold fold fold", desk).at, 6)
        self.assertEqual(desk.say("now"), "0 2")

    def test_a_name_comes_before_a_move_that_can_t_go(self):
        self.refused(NoName, "go back zzz", desk_with(GROWS))
        self.refused(NoName, "go fold fold fold zzz", desk_with(GROWS))
        self.refused(Stuck, "go back", desk_with(GROWS))

    def test_a_row_comes_before_a_moor_and_a_moor_before_a_name(self):
        for bad_row, no_moor in (
                ("climb zzz 01", "climb zzz 1"), ("cover 1 x", "cover 1 1"), ("go", "go zzz"),
                ("peak zzz zzz", "peak zzz"), ("again", "again zzz"), ("reached 1 1 1 1 1 1 1", "reached 1 1 1 1 1 1"), ("now now", "now")):
            self.refused(NoRow, bad_row, Desk())
            self.refused(NoRow, bad_row, desk_with(GROWS))
            self.refused(NoMoor, no_moor, Desk())

    def test_what_is_refused_changes_nothing(self):
        desk = desk_with(GROWS, "go fold", "most 2")
        for row in (
                None, "", "moor", "moor place a 1; place", "moor place a 1; move m takes 1 b puts", "most 0", "most 31",
                "most 3 3", "home now", "home ", "go back zzz", "go back back", "now now", "show show", "cover 1",
                "peak zzz", "climb zzz 1"):
            with self.assertRaises(MoorError):
                desk.say(row)
            self.assertEqual(desk.say("now"), "1 1")
            self.assertEqual(desk.say("show"), GROWS)
            self.assertEqual(desk.say("cover 0 3"), "open 2")
        # Any other bound would have answered otherwise.
        for bound, told in ((1, "open 1"), (3, "open 3"), (4, "row fold back fold fold")):
            desk.say(f"most {bound}")
            self.assertEqual(desk.say("cover 0 3"), told)

    def test_a_refused_bound_leaves_the_first_one(self):
        desk = Desk()
        for row in ("most 0", "most 31", "most 5 5", "most"):
            self.refused(NoRow, row, desk)
        desk.say("moor " + ring_of(19))
        self.assertEqual(desk.say("bounded"), "all 20")


def named(word, row, moves):
    return " ".join([word] + [moves[number] for number in row])


def plain_answer(moor, places, moves, most, words):
    """What is answered to a question from the moor's beginning, by slow answers; not of climb and weights."""
    counts = tuple(int(word) for word in words[1:] if word.isdigit())
    many = len(places)
    if words[0] == "cover":
        told = plain_cover(moor, counts, most)
        return {"row": named("row", told[1], moves) if told[0] == "row" else "", "wall": "never",
                "open": f"open {told[1]}"}[told[0]]
    if words[0] == "peak":
        rows = plain_growth(moor, most)[0]
        if rows is None:
            return "open"
        numbers = [cap[places.index(words[1])] for cap in plain_tops([row[0] for row in rows])]
        return "grows" if None in numbers else f"at most {max(numbers)}"
    if words[0] == "bounded":
        rows, whole = plain_flood(moor, most)
        if plain_lift(rows):
            row, further = plain_lift(rows)
            return named("lift", row, moves) + " / " + " ".join(moves[number] for number in further)
        return f"all {len(rows)}" if whole else level(moor[1], many)[0].replace("bag", "open")
    if words[0] == "end":
        told = plain_end_of(moor, most)
        spoken = {"end": lambda: named("end", told[1], moves), "free": lambda: "free " + moves[told[1]],
                  "none": lambda: f"none {len(told[1])}", "kept": lambda: "kept", "open": lambda: "open"}
        return spoken[told[0]]()
    if words[0] == "again":
        told = plain_again(moor, moves.index(words[1]), most)
        return named("dies", told[1], moves) if told[0] == "dies" else told[0]
    if words[0] == "reached":
        told = plain_reached(moor, counts, most, balances(moor[1], many))
        if told[0] == "row":
            return named("row", told[1], moves)
        return told[0] if told[0] == "open" else f"no {told[0]}"
    if words[0] == "balances":
        return " / ".join(" ".join(str(n) for n in one) for one in balances(moor[1], many)) or "none"
    breaks = {"dry": dry_break, "wet": wet_break}[words[0]]
    found = plain_least_sets([one for one in all_sets(many) if breaks(moor[1], one) is None])
    return " / ".join(" ".join(places[place] for place in one) for one in found) or "none"


class Made(unittest.TestCase):
    def made_desks(self, seed, how_many):
        """Tuples of a desk, gone somewhere by a bound, and what it was told."""
        dice = random.Random(seed)
        for begin, moves in made_moors(seed, how_many) + single_moors(seed, how_many):
            places = dice.sample(PLACE_NAMES, len(begin))
            names = dice.sample(MOVE_NAMES, len(moves))
            most = dice.choice((1, 2, 3, 6, 12, 20, 30))
            desk = desk_with(shown((begin, moves), places, names), f"most {most}")
            row, stands = wander(dice, begin, moves, dice.choice((0, 0, 5, 20)))
            if row:
                self.assertEqual(desk.say(named("go", row, names)), " ".join(str(n) for n in stands[-1]))
            yield desk, (stands[-1], moves), places, names, most

    def test_each_answer_held_against_a_slow_one(self):
        dice = random.Random(201)
        seen = {}
        for desk, moor, places, names, most in self.made_desks(202, 60):
            counts = " ".join(str(max(0, number + dice.choice((-1, 0, 0, 1)))) for number in moor[0])
            rows = [f"cover {counts}", f"reached {counts}", "bounded", "end", "balances", "dry", "wet"]
            rows += [f"peak {name}" for name in places] + [f"again {name}" for name in names]
            for row in rows:
                words = row.split(" ")
                if words[0] in ("cover", "reached") and max(int(word) for word in words[1:]) > TOP:
                    continue
                told = desk.say(row)
                wanted = plain_answer(moor, places, names, most, words)
                if wanted == "weights":
                    self.assertEqual(told.split(" ")[0], "weights")
                    weights = tuple(int(word) for word in told.split(" ")[1:])
                    self.assertTrue(min(weights) >= 1 and plain_falling(moor[1], weights))
                else:
                    self.assertEqual(told, wanted, (row, moor, most))
                kind = words[0], told.split(" ")[0] if words[0] not in ("balances", "dry", "wet") else told == "none"
                seen[kind] = seen.get(kind, 0) + 1
            self.assertEqual(desk.say("now"), " ".join(str(number) for number in moor[0]))
        self.assertEqual(len(seen), 3 + 3 + 3 + 4 + 5 + 4 + 6, seen)
        self.assertTrue(min(seen.values()) > 3, seen)

    def test_climbs_held_against_the_growth(self):
        seen = {"by": 0, "never": 0, "open": 0}
        dice = random.Random(203)
        for desk, moor, places, names, most in self.made_desks(204, 100):
            rows = plain_growth(moor, most)[0]
            for place, name in enumerate(places):
                height = dice.choice((0, 1, 2, 3, 7, TOP))
                told = desk.say(f"climb {name} {height}")
                caps = [row[0] for row in rows or [] if row[0][place] is None or row[0][place] >= height]
                seen[told.split(" ")[0]] += 1
                if rows is None or not caps:
                    self.assertEqual(told, "open" if rows is None else "never")
                    continue
                behind = self.gone(moor, names, told)
                for number, bound in zip(behind, caps[0]):
                    self.assertTrue(number >= height if bound is None else number == bound)
        self.assertTrue(min(seen.values()) > 20, seen)

    def gone(self, moor, names, told):
        """The stand behind what a climb tells; each block's first and last time are gone move by move."""
        here = moor[0]
        for block in told[3:].split(", ") if told != "by" else []:
            times, row = block.split(" times ")
            numbers = [names.index(name) for name in row.split(" ")]
            self.assertTrue(int(times) > 0 and 0 < len(numbers) <= 30)
            once = walk(here, moor[1], numbers)[0]
            last = tuple(a + (int(times) - 1) * (b - a) for a, b in zip(here, once))
            here = walk(last, moor[1], numbers)[0]
        return here

    def test_show_tells_a_text_that_a_desk_is_told(self):
        for desk, moor, places, names, most in self.made_desks(205, 40):
            text = desk.say("show")
            told = read(text)
            self.assertEqual(told[0][1], moor[1])
            self.assertEqual(told[1:], (places, names))
            other = desk_with(text)
            self.assertEqual(other.say("show"), text)
            self.assertEqual(other.say("now"), desk.say("home"))


if __name__ == "__main__":
    unittest.main()
