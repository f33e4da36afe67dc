import random
import unittest

from helpers import (
    HUGE, PLAIN, TOP, flood, made_moors, over, plain_changes, plain_sources, plain_weight, single_moors, sparse_stand,
    walk, wander)
from slow import dry_break, plain_reached, wet_break
from tokenmoor.backs import walled
from tokenmoor.balances import balances
from tokenmoor.reasons import reached

CARRY = (((1, 0), (0, 1)),)
# Place 0 is filled without end, so that the flood is never whole.
MAKE = (((0, 0), (1, 0)),)
# At place 1 two counters are made of each, or one of two.
MORE = (((0, 1), (0, 2)),)
FEWER = (((0, 2), (0, 1)),)
NOES = ("all", "balance", "dry", "wet", "wall")


def close_stand(dice, begin, moves):
    """A stand near one that a row leads to, at times that one itself."""
    found = list(wander(dice, begin, moves, dice.choice((0, 3, 40)))[1][-1])
    for each in range(dice.choice((0, 1, 1, 2))):
        place = dice.randrange(len(found))
        found[place] = max(0, found[place] + dice.choice((-3, -1, 1, 2)))
    return tuple(found)


def made_stands(seed, how_many):
    """Tuples (moor, stand)."""
    dice = random.Random(seed)
    for begin, moves in made_moors(seed, how_many) + single_moors(seed, how_many):
        yield (begin, moves), begin
        yield (begin, moves), close_stand(dice, begin, moves)
        yield (begin, moves), close_stand(dice, begin, moves)
        yield (begin, moves), sparse_stand(dice, len(begin), 0, len(begin), (0, 1, 2, 3))


class Reached(unittest.TestCase):
    def test_the_beginning_itself(self):
        for begin, moves in PLAIN:
            for most in (1, 30):
                self.assertEqual(reached((begin, moves), begin, most), ("row", []))
        self.assertEqual(reached(((HUGE, 0), CARRY), (HUGE, 0), 1), ("row", []))

    def test_a_stand_in_the_flood(self):
        self.assertEqual(reached(((2, 0), CARRY), (1, 1), 30), ("row", [0]))
        self.assertEqual(reached(((2, 0), CARRY), (0, 2), 30), ("row", [0, 0]))
        self.assertEqual(reached(((0, 0), MAKE), (29, 0), 30), ("row", [0] * 29))
        self.assertEqual(reached(((0, 0), MAKE), (30, 0), 30), ("open",))

    def test_the_row_is_the_one_to_it_in_the_flood(self):
        # Both moves 0 and 2 lead there; and another row is longer.
        moves = (((1, 0, 0), (0, 1, 0)), ((0, 1, 0), (0, 0, 1)), ((1, 0, 0), (0, 0, 1)))
        self.assertEqual(reached(((1, 0, 0), moves), (0, 0, 1), 30), ("row", [2]))
        self.assertEqual(reached(((1, 0, 0), moves + moves[:1]), (0, 1, 0), 30), ("row", [0]))

    def test_the_very_stand_and_not_one_that_covers_it(self):
        self.assertEqual(reached(((2, 0), CARRY), (1, 0), 30), ("all", [(2, 0), (1, 1), (0, 2)]))

    def test_all_stands_come_before_every_other_reason(self):
        stands = [(2, 0), (1, 1), (0, 2)]
        for stand in ((3, 0), (0, 0), (0, 3), (HUGE, 0), (1, 2)):
            self.assertEqual(reached(((2, 0), CARRY), stand, 3), ("all", stands))
            self.assertEqual(reached(((2, 0), CARRY), stand, 2), ("balance", (1, 1)))

    def test_no_moves(self):
        for begin, moves in PLAIN:
            other = tuple(number + 1 for number in begin)
            self.assertEqual(reached((begin, ()), begin, 1), ("row", []))
            self.assertEqual(reached((begin, ()), other, 1), ("all", [begin]))

    def test_just_as_many_stands_as_the_bound_and_one_more(self):
        for counters in range(1, 30):
            moor = ((counters, 0), CARRY)
            self.assertEqual(reached(moor, (0, counters), counters + 1), ("row", [0] * counters))
            self.assertEqual(reached(moor, (0, counters), counters), ("open",))
            stands = [(counters - at, at) for at in range(counters + 1)]
            self.assertEqual(reached(moor, (0, counters + 1), counters + 1), ("all", stands))
            self.assertEqual(reached(moor, (0, counters + 1), counters), ("balance", (1, 1)))

    def test_the_first_of_the_balances(self):
        # Three places with a balance for the first two and one for the last.
        moves = (((1, 0, 0), (0, 1, 0)), ((0, 1, 0), (1, 0, 0)))
        self.assertEqual(balances(moves, 3), [(1, 1, 0), (0, 0, 1)])
        self.assertEqual(reached(((5, 0, 1), moves), (5, 1, 2), 2), ("balance", (1, 1, 0)))
        self.assertEqual(reached(((5, 0, 1), moves), (4, 1, 2), 1), ("balance", (0, 0, 1)))
        self.assertEqual(reached(((5, 0, 1), moves), (3, 3, 1), 2), ("balance", (1, 1, 0)))
        self.assertEqual(reached(((5, 0, 1), moves), (3, 2, 1), 2), ("open",))

    def test_a_dry_set(self):
        self.assertEqual(reached(((0, 0), MAKE + MORE), (0, 1), 30), ("dry", (1,)))
        self.assertEqual(reached(((0, 0), MAKE + MORE), (HUGE, HUGE), 30), ("dry", (1,)))
        # Just one counter at the beginning.
        self.assertEqual(reached(((0, 1), MAKE + MORE), (40, 40), 30), ("open",))

    def test_the_greatest_dry_set_is_told_whole(self):
        moves = (((0, 0, 0), (1, 0, 0)), ((0, 1, 0), (0, 1, 1)), ((0, 0, 1), (0, 1, 1)))
        self.assertEqual(reached(((0, 0, 0), moves), (0, 0, 1), 30), ("dry", (1, 2)))
        moves += (((0, 1, 1), (0, 0, 0)),)
        self.assertEqual(reached(((3, 0, 0), moves), (2, 1, 0), 30), ("dry", (1, 2)))

    def test_a_wet_set(self):
        self.assertEqual(reached(((0, 3), MAKE + FEWER), (0, 0), 30), ("wet", (0, 1)))
        self.assertEqual(reached(((0, 3), MAKE + FEWER), (TOP, 0), 30), ("wet", (1,)))
        self.assertEqual(reached(((1, 0), MAKE + FEWER), (0, 0), 1), ("wet", (0, 1)))

    def test_a_wall(self):
        self.assertEqual(reached(((0, 3), MAKE + FEWER), (0, 5), 30), ("wall", [(0, 5)]))
        self.assertEqual(reached(((0, 3), MAKE + FEWER), (0, HUGE), 30), ("wall", [(0, HUGE)]))
        # Place 1 never has four counters, but the rings go one step back for each counter at place 0.
        self.assertEqual(reached(((0, 3), MAKE + FEWER), (TOP, 4), 2), ("open",))

    def test_open(self):
        # Only even numbers come about, but none of the reasons tells it.
        self.assertEqual(reached(((0,), (((0,), (2,)),)), (1,), 30), ("open",))
        self.assertEqual(reached(((0, 0), MAKE), (30, 0), 30), ("open",))
        self.assertEqual(reached(((0, 0), MAKE), (HUGE, 0), 1), ("open",))

    def test_the_order_of_the_reasons(self):
        # Place 2 is a balance by itself, and dry as well; place 1 falls, so it is wet and has a wall.
        moves = (((0, 0, 0), (1, 0, 0)), ((0, 2, 0), (0, 1, 0)), ((0, 0, 1), (0, 0, 1)))
        self.assertEqual(reached(((0, 3, 0), moves), (0, 5, 1), 30), ("balance", (0, 0, 1)))
        # Now place 2 may grow, once it has a counter: no balance is left.
        moves = moves[:2] + (((0, 0, 1), (0, 0, 2)),)
        self.assertEqual(balances(moves, 3), [])
        self.assertEqual(reached(((0, 3, 0), moves), (0, 0, 1), 30), ("dry", (2,)))
        self.assertEqual(reached(((0, 3, 0), moves), (0, 5, 1), 30), ("dry", (2,)))
        # The beginning has a counter that can't be lost, and the stand one more than comes about at place 1.
        self.assertEqual(reached(((0, 3, 1), moves), (0, 5, 0), 30), ("wet", (0, 2)))
        self.assertEqual(reached(((0, 3, 1), moves), (0, 5, 1), 30), ("wall", [(0, 5, 1)]))

    def test_a_wall_by_small_bounds(self):
        # The wall has three stands, which the bound must allow.
        moves = (((0, 0, 0), (1, 0, 0)), ((0, 1, 0), (0, 0, 1)), ((0, 2, 1), (0, 1, 1)))
        self.assertEqual(reached(((0, 1, 0), moves), (0, 0, 2), 3), ("wall", [(0, 0, 2), (0, 1, 1), (0, 2, 0)]))
        self.assertEqual(reached(((0, 1, 0), moves), (0, 0, 2), 2), ("open",))

    def test_made_ones(self):
        seen = {}
        for moor, stand in made_stands(181, 150):
            basis = balances(moor[1], len(stand))
            for most in (1, 3, 30):
                told = reached(moor, stand, most)
                self.assertEqual(told, plain_reached(moor, stand, most, basis))
                self.holds(moor, stand, told)
                seen[told[0]] = seen.get(told[0], 0) + 1
        self.assertTrue(len(seen) == 7 and min(seen.values()) > 30, seen)

    def holds(self, moor, stand, told):
        """What is told can be seen to be so."""
        begin, moves = moor
        if told[0] == "row":
            self.assertEqual(walk(begin, moves, told[1])[0], stand)
        if told[0] == "all":
            self.assertNotIn(stand, told[1])
            self.assertIn(begin, told[1])
            behind = [walk(one, moves, [number])[0] for one in told[1] for number in range(len(moves))]
            self.assertTrue(all(one is None or one in told[1] for one in behind))
        if told[0] == "balance":
            self.assertFalse(any(plain_changes(moves, told[1])))
            self.assertNotEqual(plain_weight(told[1], stand), plain_weight(told[1], begin))
        if told[0] == "dry":
            self.assertIsNone(dry_break(moves, told[1]))
            self.assertFalse(any(begin[place] for place in told[1]))
            self.assertTrue(any(stand[place] for place in told[1]))
        if told[0] == "wet":
            self.assertIsNone(wet_break(moves, told[1]))
            self.assertTrue(any(begin[place] for place in told[1]))
            self.assertFalse(any(stand[place] for place in told[1]))
        if told[0] == "wall":
            self.assertTrue(any(over(stand, low) for low in told[1]))
            self.assertFalse(any(over(begin, low) for low in told[1]))
            for one in plain_sources(moves, told[1]):
                self.assertTrue(any(over(one, low) for low in told[1]))
            self.assertTrue(walled(moor, stand, told[1]))

    def test_no_yes_or_no_is_wrong(self):
        held = 0
        for moor, stand in made_stands(182, 60):
            words = {reached(moor, stand, most)[0] for most in (1, 2, 5, 12, 30)}
            self.assertFalse("row" in words and words & set(NOES))
            if stand in flood(moor[0], moor[1], 150)[0]:
                self.assertTrue(words <= {"row", "open"})
                held += "open" in words
        self.assertTrue(held > 30)

    def test_kinds(self):
        for moor, stand, most, kind in (
                (((2, 0), CARRY), (1, 1), 30, list), (((2, 0), CARRY), (3, 3), 30, list),
                (((2, 0), CARRY), (3, 3), 1, tuple), (((0, 0), MAKE + MORE), (0, 1), 30, tuple),
                (((0, 3), MAKE + FEWER), (0, 0), 30, tuple), (((0, 3), MAKE + FEWER), (0, 5), 30, list)):
            told = reached(moor, stand, most)
            self.assertEqual([type(told)] + [type(part) for part in told], [tuple, str, kind])
        self.assertIs(type(reached(((0, 0), MAKE), (30, 0), 30)), tuple)


if __name__ == "__main__":
    unittest.main()
