import itertools
import random
import unittest

from helpers import (
    HUGE, PLAIN, TOP, flood, grid, lifts, over, plain_next_ring, plain_sources, some_moors, some_stand, sparse_moors,
    walk)
from slow import plain_cover, plain_enough
from tokenmoor.backs import cover, enough, never, walled

# Move 0 carries a counter from the second place to the first.
CARRY = (((0, 1), (1, 0)),)
# Move 0 makes a counter of nothing.
MAKE = (((0,), (1,)),)


def made_questions(seed, how_many):
    """Moors with targets and bounds of work."""
    dice = random.Random(seed)
    for made in some_moors(seed, how_many) + sparse_moors(seed, how_many) + list(PLAIN):
        target = tuple(dice.choice((0, 0, 1, 1, 2, 3)) for place in made[0])
        yield made, target, dice.choice((1, 2, 3, 5, 10, 20, 30))


class Enough(unittest.TestCase):
    def test_ordinary_ones(self):
        self.assertEqual(enough(CARRY, (2, 0), 20), ("basis", [(0, 2), (1, 1), (2, 0)]))
        self.assertEqual(enough(CARRY, (0, 2), 20), ("basis", [(0, 2)]))
        self.assertEqual(enough(MAKE, (3,), 20), ("basis", [(0,)]))

    def test_no_moves(self):
        for most in (1, 30):
            self.assertEqual(enough((), (3, 0, TOP), most), ("basis", [(3, 0, TOP)]))
            self.assertEqual(enough((), (0,), most), ("basis", [(0,)]))

    def test_noughts_are_enough_at_once(self):
        for made in PLAIN:
            self.assertEqual(enough(made[1], (0,) * len(made[0]), 1), ("basis", [(0,) * len(made[0])]))

    def test_just_as_many_stands_as_most_and_one_more(self):
        # Ring k of (n, 0) has k + 1 stands, up to n + 1.
        for most in (1, 2, 7, 30):
            just = [(k, most - 1 - k) for k in range(most)]
            self.assertEqual(enough(CARRY, (most - 1, 0), most), ("basis", just))
            self.assertEqual(enough(CARRY, (most, 0), most), ("open", most))

    def test_too_many_stands_is_asked_before_the_next_ring_is_like_it(self):
        self.assertEqual(plain_next_ring(CARRY, [(0, 1), (1, 0)]), [(0, 1), (1, 0)])
        self.assertEqual(enough(CARRY, (1, 0), 1), ("open", 1))
        self.assertEqual(enough(CARRY, (1, 0), 2), ("basis", [(0, 1), (1, 0)]))

    def test_too_many_stands_in_an_early_ring(self):
        moves = tuple(((0,) * k + (1,) + (0,) * (5 - k), (0, 0, 0, 0, 0, 1)) for k in range(5))
        self.assertEqual(enough(moves, (0, 0, 0, 0, 0, 1), 5), ("open", 1))
        self.assertEqual(enough(moves, (0, 0, 0, 0, 0, 1), 6)[0], "basis")

    def test_the_next_ring_is_like_it_is_asked_before_k_is_most(self):
        for most in (1, 2, 29, 30):
            self.assertEqual(enough(MAKE, (most,), most), ("basis", [(0,)]))
            self.assertEqual(enough(MAKE, (most + 1,), most), ("open", most))
            self.assertEqual(enough(MAKE, (HUGE,), most), ("open", most))

    def test_moves_that_take_nothing_or_put_nothing(self):
        self.assertEqual(enough((((0, 0), (0, 0)),), (2, 1), 1), ("basis", [(2, 1)]))
        self.assertEqual(enough((((2, 0), (0, 0)),), (2, 1), 1), ("basis", [(2, 1)]))
        self.assertEqual(enough((((0, 0), (TOP, 0)),), (TOP, 1), 1), ("basis", [(0, 1)]))

    def test_huge_targets(self):
        self.assertEqual(enough((((TOP,), (0,)),), (HUGE,), 1), ("basis", [(HUGE,)]))
        self.assertEqual(enough((((0, 1), (TOP, 0)),), (HUGE, 0), 3), ("open", 3))
        told = enough((((0, 1), (TOP, 0)),), (2 * TOP, HUGE), 3)
        self.assertEqual(told, ("basis", [(0, HUGE + 2), (TOP, HUGE + 1), (2 * TOP, HUGE)]))

    def test_made_ones_ring_by_ring(self):
        seen = {"basis": 0, "open": 0}
        for made, target, most in made_questions(31, 250):
            told = enough(made[1], target, most)
            self.assertEqual(told, plain_enough(made[1], target, most))
            seen[told[0]] += 1
        self.assertTrue(min(seen.values()) > 30)

    def test_the_basis_lifts_just_the_stands_from_which_the_target_can_be_covered(self):
        asked = 0
        for made, target, most in made_questions(32, 300):
            many = len(made[0])
            told = enough(made[1], target, 30)
            if many > 2 or told[0] == "open":
                continue
            asked += 1
            for stand in grid(many, 3):
                stands, whole = flood(stand, made[1], 60)
                reached = any(over(one, target) for one in stands)
                if reached or whole:
                    self.assertEqual(lifts(told[1], stand), reached)
        self.assertTrue(asked > 100)

    def test_kinds(self):
        told = enough(CARRY, (2, 0), 20)
        self.assertEqual((type(told), type(told[1]), type(told[1][0])), (tuple, list, tuple))
        told = enough(CARRY, (2, 0), 1)
        self.assertEqual((type(told), type(told[1])), (tuple, int))


class Cover(unittest.TestCase):
    def test_ordinary_ones(self):
        self.assertEqual(cover(((0, 2), CARRY), (2, 0), 20), ("row", [0, 0]))
        self.assertEqual(cover(((0, 2), CARRY), (1, 1), 20), ("row", [0]))
        self.assertEqual(cover(((0, 2), CARRY), (3, 0), 20), ("wall", [(0, 3), (1, 2), (2, 1), (3, 0)]))
        self.assertEqual(cover(((0,), MAKE), (5,), 4), ("open", 4))

    def test_the_beginning_covers_the_target(self):
        for begin, moves in PLAIN:
            self.assertEqual(cover((begin, moves), begin, 1), ("row", []))
            self.assertEqual(cover((begin, moves), (0,) * len(begin), 30), ("row", []))
        self.assertEqual(cover(((HUGE, 1), CARRY), (HUGE - 1, 1), 1), ("row", []))

    def test_no_moves(self):
        self.assertEqual(cover(((1, 1), ()), (1, 1), 1), ("row", []))
        self.assertEqual(cover(((1, 1), ()), (1, 2), 1), ("wall", [(1, 2)]))

    def test_of_all_rows_of_as_many_moves_the_first_in_order(self):
        moves = (((0, 1, 0), (0, 0, 1)), ((1, 0, 0), (0, 0, 0)), ((1, 0, 0), (0, 1, 0)), ((1, 0, 0), (0, 1, 0)))
        self.assertEqual(cover(((1, 0, 0), moves), (0, 0, 1), 20), ("row", [2, 0]))
        moves = (((1, 0), (0, 1)), ((0, 0), (1, 0)))
        self.assertEqual(cover(((1, 0), moves), (2, 1), 20), ("row", [0, 1, 1]))
        self.assertEqual(cover(((0, 0), moves), (1, 1), 20), ("row", [1, 0, 1]))

    def test_the_shortest_row_even_where_a_longer_one_is_earlier_in_order(self):
        moves = (((0,), (1,)), ((0,), (3,)))
        self.assertEqual(cover(((0,), moves), (3,), 20), ("row", [1]))
        self.assertEqual(cover(((0,), moves), (4,), 20), ("row", [0, 1]))

    def test_all_rows_gone_in_their_order(self):
        found = 0
        for made, target, most in made_questions(33, 250):
            told = cover(made, target, most)
            if told[0] != "row" or len(made[1]) ** len(told[1]) > 3000:
                continue
            found += 1
            begin, moves = made
            for length in range(len(told[1]) + 1):
                good = (list(row) for row in itertools.product(range(len(moves)), repeat=length)
                        if over(walk(begin, moves, row)[0] or [-1] * len(begin), target))
                first = next(good, None)
                self.assertEqual(first, told[1] if length == len(told[1]) else None)
        self.assertTrue(found > 100)

    def test_made_ones_ring_by_ring(self):
        seen = {"row": 0, "wall": 0, "open": 0}
        longest = 0
        for made, target, most in made_questions(34, 400):
            told = cover(made, target, most)
            self.assertEqual(told, plain_cover(made, target, most))
            seen[told[0]] += 1
            longest = max(longest, len(told[1]) if told[0] == "row" else 0)
        self.assertTrue(min(seen.values()) > 30 and longest > 4)

    def test_never_a_wrong_yes_or_no(self):
        seen = {True: 0, False: 0}
        for made, target, most in made_questions(35, 400):
            stands, whole = flood(made[0], made[1], 100)
            reached = any(over(stand, target) for stand in stands)
            told = cover(made, target, most)
            if reached or whole:
                self.assertIn(told[0], ("row" if reached else "wall", "open"))
                seen[reached] += told[0] != "open"
            if told[0] == "row":
                self.assertTrue(over(walk(made[0], made[1], told[1])[0], target))
            if told[0] == "wall":
                self.assertFalse(reached)
                self.assertTrue(lifts(told[1], target))
                self.assertFalse(lifts(told[1], made[0]))
                self.assertTrue(all(lifts(told[1], one) for one in plain_sources(made[1], told[1])))
                self.assertIs(walled(made, target, told[1]), True)
        self.assertTrue(min(seen.values()) > 30)

    def test_the_row_is_asked_before_too_many_stands(self):
        self.assertEqual(cover(((0, 1), CARRY), (1, 0), 1), ("row", [0]))
        self.assertEqual(cover(((0, 30), CARRY), (30, 0), 30), ("row", [0] * 30))
        self.assertEqual(cover(((0, 31), CARRY), (31, 0), 30), ("open", 30))

    def test_too_many_stands_is_asked_before_the_wall(self):
        self.assertEqual(cover(((0, 0), CARRY), (1, 0), 1), ("open", 1))
        self.assertEqual(cover(((0, 0), CARRY), (1, 0), 2), ("wall", [(0, 1), (1, 0)]))

    def test_just_as_many_stands_as_most_and_one_more(self):
        for most in (1, 2, 7, 30):
            just = [(k, most - 1 - k) for k in range(most)]
            self.assertEqual(cover(((0, 0), CARRY), (most - 1, 0), most), ("wall", just) if most > 1 else ("row", []))
            self.assertEqual(cover(((0, 0), CARRY), (most, 0), most), ("open", most))

    def test_the_wall_is_asked_before_k_is_most(self):
        # The second place can't be filled; at the first one ring k asks for k counters fewer.
        moves = (((0, 0), (1, 0)),)
        for most in (1, 2, 30):
            self.assertEqual(cover(((0, 0), moves), (most, 1), most), ("wall", [(0, 1)]))
            self.assertEqual(cover(((0, 0), moves), (most + 1, 1), most), ("open", most))

    def test_the_row_of_most_moves_and_of_one_more(self):
        for most in (1, 2, 30):
            self.assertEqual(cover(((0,), MAKE), (most,), most), ("row", [0] * most))
            self.assertEqual(cover(((0,), MAKE), (most + 1,), most), ("open", most))
            self.assertEqual(cover(((1,), MAKE), (most + 1,), most), ("row", [0] * most))

    def test_moves_that_take_nothing_or_put_nothing(self):
        self.assertEqual(cover(((0,), (((0,), (0,)),)), (1,), 1), ("wall", [(1,)]))
        self.assertEqual(cover(((1,), (((1,), (0,)),)), (2,), 1), ("wall", [(2,)]))
        self.assertEqual(cover(((0,), (((0,), (0,)), ((0,), (TOP,)))), (TOP,), 1), ("row", [1]))

    def test_great_numbers(self):
        moves = (((TOP, 0), (0, TOP)),)
        self.assertEqual(cover(((TOP, 0), moves), (0, TOP), 5), ("row", [0]))
        self.assertEqual(cover(((TOP - 1, 0), moves), (0, TOP), 5), ("wall", [(0, TOP), (TOP, 0)]))
        self.assertEqual(cover(((HUGE, HUGE), moves), (0, HUGE + 3 * TOP), 5), ("row", [0, 0, 0]))
        self.assertEqual(cover(((HUGE, HUGE), moves), (HUGE, HUGE + TOP), 1), ("open", 1))
        self.assertEqual(cover(((HUGE, 0), moves), (HUGE + 1, 0), 1), ("wall", [(HUGE + 1, 0)]))

    def test_eight_moves_on_six_places(self):
        begin, moves = PLAIN[-1]
        for target in ((2,) * 6, (0, 0, 0, 0, 0, 9), (3, 0, 3, 0, 3, 0)):
            self.assertEqual(cover((begin, moves), target, 30), plain_cover((begin, moves), target, 30))

    def test_kinds(self):
        for most in (1, 2, 20):
            for begin in ((0, 0), (0, 1), (0, 2)):
                told = cover((begin, CARRY), (2, 0), most)
                self.assertIs(type(told), tuple)
                self.assertIs(type(told[1]), int if told[0] == "open" else list)


class Walled(unittest.TestCase):
    def test_all_three_are_needed(self):
        made = ((0, 2), CARRY)
        wall = [(0, 3), (1, 2), (2, 1), (3, 0)]
        self.assertIs(walled(made, (3, 0), wall), True)
        self.assertIs(walled(made, (4, 1), wall), True)
        self.assertIs(walled(made, (1, 1), wall), False)
        self.assertIs(walled(made, (3, 0), wall[1:]), False)
        self.assertIs(walled(((0, 3), CARRY), (3, 0), wall), False)

    def test_the_empty_list_lifts_no_target(self):
        for made in PLAIN:
            self.assertIs(walled(made, made[0], []), False)
            self.assertIs(walled(made, (HUGE,) * len(made[0]), []), False)

    def test_any_list_of_stands(self):
        wall = [(9, 9), (3, 0), (2, 1), (1, 2), (0, 3), (3, 0), (2, 2)]
        self.assertIs(walled(((0, 2), CARRY), (3, 0), wall), True)
        self.assertIs(walled(((0, 2), CARRY), (3, 0), wall + [(0, 1)]), False)
        self.assertIs(walled(((0, 2), CARRY), (3, 0), wall + [(0, 0)]), False)

    def test_no_moves(self):
        self.assertIs(walled(((1,), ()), (2,), [(2,)]), True)
        self.assertIs(walled(((1,), ()), (2,), [(1,)]), False)

    def test_made_ones(self):
        dice = random.Random(36)
        seen = {True: 0, False: 0}
        for made, target, most in made_questions(37, 800):
            basis = [some_stand(dice, len(target), 3) for each in range(dice.randint(0, 4))] + [target]
            is_wall = (
                lifts(basis, target) and not lifts(basis, made[0])
                and all(lifts(basis, one) for one in plain_sources(made[1], basis)))
            self.assertIs(walled(made, target, basis), is_wall)
            seen[is_wall] += 1
        self.assertTrue(min(seen.values()) > 50)

    def test_huge_numbers(self):
        self.assertIs(walled(((HUGE,), (((1,), (0,)),)), (HUGE + 1,), [(HUGE + 1,)]), True)
        self.assertIs(walled(((HUGE,), (((1,), (0,)),)), (HUGE,), [(HUGE,)]), False)
        self.assertIs(walled(((0,), MAKE), (HUGE,), [(HUGE,)]), False)


class Never(unittest.TestCase):
    def test_an_ordinary_moor(self):
        moves = (((1, 0), (0, 1)), ((0, 2), (1, 0)), ((0, 1), (0, 0)))
        self.assertEqual(never(((1, 0), moves), 20), [False, True, False])
        self.assertEqual(never(((2, 0), moves), 20), [False, False, False])
        self.assertEqual(never(((0, 0), moves), 20), [True, True, True])

    def test_no_moves(self):
        self.assertEqual(never(((3,), ()), 1), [])

    def test_none_where_it_is_not_settled(self):
        moves = (((0,), (1,)), ((3,), (0,)), ((4,), (0,)))
        self.assertEqual(never(((0,), moves), 3), [False, False, None])
        self.assertEqual(never(((0,), moves), 4), [False, False, False])
        self.assertEqual(never(((0, 0), (((1, 0), (0, 0)), ((0, 1), (1, 0)))), 1), [None, True])
        self.assertEqual(never(((0, 0), (((1, 0), (0, 0)), ((0, 1), (1, 0)))), 2), [True, True])

    def test_a_move_that_takes_nothing_can_always_go(self):
        self.assertEqual(never(((0,), (((0,), (0,)), ((1,), (0,)))), 1), [False, True])

    def test_made_ones(self):
        words = {"wall": True, "row": False, "open": None}
        seen = {True: 0, False: 0, None: 0}
        for made, target, most in made_questions(38, 250):
            told = never(made, most)
            self.assertEqual(told, [words[plain_cover(made, take, most)[0]] for take, put in made[1]])
            stands, whole = flood(made[0], made[1], 60)
            for one, (take, put) in zip(told, made[1]):
                seen[one] += 1
                if any(over(stand, take) for stand in stands):
                    self.assertIsNot(one, True)
                elif whole:
                    self.assertIsNot(one, False)
        self.assertTrue(min(seen.values()) > 30)

    def test_kinds(self):
        told = never(((1,), (((1,), (0,)), ((2,), (0,)))), 5)
        self.assertIs(type(told), list)
        self.assertEqual([type(one) for one in told], [bool, bool])


if __name__ == "__main__":
    unittest.main()
