"""The whole program: what an answer at the desk says holds when its moves are gone at the desk."""

import random
import unittest

from helpers import PLAIN, made_moors, over, single_moors, sparse_stand, wander
from slow import is_stuck
from tokenmoor.backs import cover, never
from tokenmoor.balances import balances
from tokenmoor.ceilings import ceiling
from tokenmoor.climbs import peak
from tokenmoor.crowns import crown, under
from tokenmoor.desk import Desk
from tokenmoor.ends import again, end_of, is_end, kept
from tokenmoor.errors import Stuck
from tokenmoor.floods import bounded, flood
from tokenmoor.reasons import reached
from tokenmoor.texts import shown
from tokenmoor.weights import weigh

PLACES = ["a", "b", "c", "d", "e", "f"]
MOVES = ["a", "b", "m", "n", "o", "p", "q", "r"]
BOUNDS = (1, 2, 3, 5, 12, 20, 30)


def told_moors(seed, how_many):
    return made_moors(seed, how_many) + single_moors(seed, how_many)


def desk_at(moor):
    desk = Desk()
    text = shown(moor, PLACES[:len(moor[0])], MOVES[:len(moor[1])])
    assert desk.say("moor " + text) == "ok"
    return desk


def counts(text):
    return tuple(int(word) for word in text.split(" "))


def spoken(stand):
    return " ".join(str(number) for number in stand)


def gone(desk, words):
    """Where the desk is behind these moves."""
    return counts(desk.say("go " + " ".join(words)) if words else desk.say("now"))


class AtTheDesk(unittest.TestCase):
    def asked(self, seed, how_many):
        """Tuples of a desk at its moor's beginning, by some bound, the moor, and dice."""
        dice = random.Random(seed)
        for moor in told_moors(seed, how_many):
            desk = desk_at(moor)
            for most in dice.sample(BOUNDS, 3):
                desk.say(f"most {most}")
                desk.say("home")
                yield desk, moor, dice

    def test_a_row_that_covers(self):
        held = {"row": 0, "never": 0, "open": 0}
        for desk, moor, dice in self.asked(211, 80):
            target = sparse_stand(dice, len(moor[0]), 0, len(moor[0]), (1, 1, 2, 3))
            words = desk.say("cover " + spoken(target)).split(" ")
            held[words[0]] += 1
            if words[0] == "row":
                self.assertTrue(over(gone(desk, words[1:]), target))
            if words[0] == "never":
                self.assertFalse(any(over(stand, target) for stand in self.some_stands(dice, moor)))
        self.assertTrue(min(held.values()) > 20, held)

    def some_stands(self, dice, moor):
        return wander(dice, moor[0], moor[1], 40)[1]

    def test_a_row_that_reaches(self):
        held = {"row": 0, "no": 0, "open": 0}
        for desk, moor, dice in self.asked(212, 80):
            stand = dice.choice(wander(dice, moor[0], moor[1], 6)[1])
            for wanted in (stand, sparse_stand(dice, len(moor[0]), 0, len(moor[0]), (1, 2))):
                if max(wanted) > 10 ** 9:
                    continue
                words = desk.say("reached " + spoken(wanted)).split(" ")
                held[words[0]] += 1
                if words[0] == "row":
                    self.assertEqual(gone(desk, words[1:]), wanted)
                    desk.say("home")
                if words[0] == "no":
                    self.assertNotEqual(wanted, stand)
                    self.assertNotIn(wanted, self.some_stands(dice, moor))
        self.assertTrue(min(held.values()) > 20, held)

    def test_an_end(self):
        held = {"end": 0, "free": 0, "none": 0, "kept": 0, "open": 0}
        for desk, moor, dice in self.asked(213, 80):
            words = desk.say("end").split(" ")
            held[words[0]] += 1
            if words[0] == "end":
                here = gone(desk, words[1:])
                self.assertEqual(desk.say("end"), "end")
                for name in MOVES[:len(moor[1])]:
                    with self.assertRaises(Stuck) as caught:
                        desk.say("go " + name)
                    self.assertEqual(caught.exception.at, 0)
                self.assertEqual(counts(desk.say("now")), here)
                self.assertEqual(desk.say("bounded"), "all 1")
            elif words[0] != "open":
                self.assertFalse(any(is_stuck(moor, stand) for stand in self.some_stands(dice, moor)))
        self.assertTrue(min(held.values()) > 5, held)

    def test_a_lost_move(self):
        held = {"dies": 0, "lives": 0, "always": 0, "open": 0}
        for desk, moor, dice in self.asked(214, 60):
            for number, name in enumerate(MOVES[:len(moor[1])]):
                desk.say("home")
                words = desk.say("again " + name).split(" ")
                held[words[0]] += 1
                if words[0] == "dies":
                    gone(desk, words[1:])
                    self.assertEqual(desk.say("again " + name), "dies")
                    self.assertIn(desk.say("cover " + spoken(moor[1][number][0])).split(" ")[0], ("never", "open"))
                    row = wander(dice, counts(desk.say("now")), moor[1], 25)[0]
                    self.assertNotIn(number, row)
                elif words[0] != "open":
                    # Whatever row goes first, the move's take can be covered from there.
                    row = wander(dice, moor[0], moor[1], 10)[0]
                    gone(desk, [MOVES[at] for at in row])
                    self.assertNotEqual(desk.say("again " + name).split(" ")[0], "dies")
                    self.assertNotEqual(desk.say("cover " + spoken(moor[1][number][0])), "never")
        self.assertTrue(min(held.values()) > 20, held)

    def test_a_lift(self):
        held = {"lift": 0, "all": 0, "weights": 0, "open": 0}
        for desk, moor, dice in self.asked(215, 80):
            words = desk.say("bounded").split(" ")
            held[words[0]] += 1
            if words[0] == "lift":
                row, further = words[1:words.index("/")], words[words.index("/") + 1:]
                before = gone(desk, row)
                self.assertTrue(further)
                for times in range(4):
                    behind = gone(desk, further)
                    self.assertTrue(over(behind, before) and behind != before)
                    before = behind
            if words[0] == "weights":
                weights = counts(" ".join(words[1:]))
                stands = self.some_stands(dice, moor)
                self.assertTrue(all(weigh(weights, stand) <= weigh(weights, moor[0]) for stand in stands))
        self.assertTrue(min(held.values()) > 5, held)

    def test_a_climb_and_a_peak(self):
        held = {"by": 0, "never": 0, "open": 0}
        for desk, moor, dice in self.asked(216, 80):
            for place, name in enumerate(PLACES[:len(moor[0])]):
                desk.say("home")
                height = dice.choice((0, 1, 2, 3))
                words = desk.say(f"climb {name} {height}")
                top = desk.say(f"peak {name}")
                held[words.split(" ")[0]] += 1
                self.assertEqual(words == "open", top == "open")
                if words == "never":
                    self.assertTrue(int(top.split(" ")[2]) < height)
                if words.startswith("by"):
                    self.assertTrue(top == "grows" or int(top.split(" ")[2]) >= height)
                    self.climbs(desk, words, place, height)
        self.assertTrue(min(held.values()) > 50, held)

    def climbs(self, desk, words, place, height):
        blocks = [block.split(" times ") for block in words[3:].split(", ")] if words != "by" else []
        if sum(int(times) * len(row.split(" ")) for times, row in blocks) > 2000:
            return
        here = counts(desk.say("now"))
        for times, row in blocks:
            for each in range(int(times)):
                here = gone(desk, row.split(" "))
        self.assertTrue(here[place] >= height)

    def test_balances_weigh_the_same_wherever_it_is(self):
        held = 0
        for desk, moor, dice in self.asked(217, 80):
            told = desk.say("balances")
            row = wander(dice, moor[0], moor[1], 12)[0]
            behind = gone(desk, [MOVES[number] for number in row])
            for weights in told.split(" / ") if told != "none" else []:
                self.assertEqual(weigh(counts(weights), behind), weigh(counts(weights), moor[0]))
                held += len(row) > 0
            self.assertEqual(desk.say("balances"), told)
        self.assertTrue(held > 50)

    def test_a_dry_set_stays_dry_and_a_wet_one_wet(self):
        held = {"dry": 0, "wet": 0}
        for desk, moor, dice in self.asked(218, 80):
            sets = {word: desk.say(word) for word in ("dry", "wet")}
            for word, full in (("dry", False), ("wet", True)):
                for names in sets[word].split(" / ") if sets[word] != "none" else []:
                    places = [PLACES.index(name) for name in names.split(" ")]
                    if any(moor[0][place] for place in places) == full:
                        stands = self.some_stands(dice, moor)
                        self.assertTrue(all(any(stand[place] for place in places) == full for stand in stands))
                        held[word] += len(stands) > 3
        self.assertTrue(min(held.values()) > 20, held)


class Together(unittest.TestCase):
    """What the modules tell of one moor agrees."""

    def test_bounded_crown_and_peaks(self):
        held = 0
        for moor in told_moors(221, 100):
            word = bounded(moor, 30)[0]
            tops = crown(moor, 30)
            if tops is None or word == "open":
                continue
            grows = [place for place in range(len(moor[0])) if peak(moor, place, 30) == ("grows",)]
            self.assertEqual(word == "lift", len(grows) > 0)
            for place in grows:
                self.assertEqual(ceiling(moor[1], place, len(moor[0]))[0], "bag")
            held += 1
        self.assertTrue(held > 100)

    def test_stands_and_the_crown(self):
        for moor in told_moors(222, 80):
            tops = crown(moor, 30)
            for row in flood(moor, 30)[0] if tops is not None else []:
                self.assertTrue(any(under(row[0], cap) for cap in tops))

    def test_reached_and_cover(self):
        dice = random.Random(223)
        held = {True: 0, False: 0}
        for moor in told_moors(224, 100):
            stand = sparse_stand(dice, len(moor[0]), 0, len(moor[0]), (1, 2, 3))
            told, covered = reached(moor, stand, 30)[0], cover(moor, stand, 30)[0]
            held[covered == "wall"] += 1
            if covered == "wall":
                self.assertIn(told, ("all", "balance", "dry", "wet", "wall"))
            if told == "row":
                self.assertNotEqual(covered, "wall")
        self.assertTrue(min(held.values()) > 50, held)

    def test_ends_and_moves(self):
        # In an end all moves are dead; where a move always goes again there is no end.
        held = {"end": 0, "alive": 0}
        for moor in told_moors(225, 100):
            told = end_of(moor, 30)
            words = [again(moor, number, 30)[0] for number in range(len(moor[1]))]
            if told[0] == "end":
                held["end"] += 1
                self.assertFalse(set(words) & {"lives", "always"})
            if set(words) & {"lives", "always"}:
                held["alive"] += 1
                self.assertNotEqual(told[0], "end")
            if told == ("end", []) and moor[1]:
                self.assertTrue(all(lost is not False for lost in never(moor, 30)))
        self.assertTrue(min(held.values()) > 30, held)

    def test_kept_and_ends(self):
        held = 0
        for moor in told_moors(226, 150):
            if kept(moor) is not None:
                held += 1
                self.assertFalse(is_end(moor, moor[0]))
                self.assertNotEqual(end_of(moor, 30)[0], "end")
        self.assertTrue(held > 20)

    def test_lists_of_all_stands_are_alike(self):
        held = 0
        for moor in told_moors(227, 100) + list(PLAIN):
            rows, whole = flood(moor, 30)
            stands = [row[0] for row in rows]
            other = tuple(number + 7 for number in moor[0])
            told = [bounded(moor, 30), end_of(moor, 30), reached(moor, other, 30)]
            told += [again(moor, number, 30) for number in range(len(moor[1]))]
            for one in told:
                if one[0] in ("all", "none", "lives"):
                    self.assertTrue(whole)
                    self.assertEqual(one[1], stands)
                    held += 1
        self.assertTrue(held > 100)

    def test_balances_and_what_is_reached(self):
        dice = random.Random(228)
        held = 0
        for moor in told_moors(229, 100):
            basis = balances(moor[1], len(moor[0]))
            stand = wander(dice, moor[0], moor[1], 30)[1][-1]
            for weights in basis:
                self.assertEqual(weigh(weights, stand), weigh(weights, moor[0]))
            self.assertIn(reached(moor, stand, 30)[0], ("row", "open"))
            held += len(basis)
        self.assertTrue(held > 100)


if __name__ == "__main__":
    unittest.main()
