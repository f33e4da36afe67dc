import random
import unittest

from helpers import (
    HUGE, PLAIN, TOP, grid, lifts, over, plain_least, plain_sources, some_moors, some_stand, walk)
from tokenmoor.bases import both, either, is_shut, least, lifted, source, step_back


def some_stands(dice, many, top, most):
    return [some_stand(dice, many, top) for each in range(dice.randint(0, most))]


class Least(unittest.TestCase):
    def test_an_ordinary_list(self):
        self.assertEqual(least([(2, 1), (0, 3), (1, 3), (2, 2), (5, 0)]), [(0, 3), (2, 1), (5, 0)])

    def test_no_stands_and_one(self):
        self.assertEqual(least([]), [])
        self.assertEqual(least([(4, 2)]), [(4, 2)])

    def test_alike_ones_are_told_once(self):
        self.assertEqual(least([(1, 2), (1, 2), (2, 1), (1, 2), (2, 1)]), [(1, 2), (2, 1)])

    def test_sorted_as_tuples_not_by_their_sums(self):
        self.assertEqual(least([(10, 0), (2, 1), (0, 50)]), [(0, 50), (2, 1), (10, 0)])

    def test_one_place(self):
        self.assertEqual(least([(5,), (3,), (TOP,), (3,)]), [(3,)])

    def test_noughts_leave_nothing_else(self):
        self.assertEqual(least([(1, 0, 0), (0, 0, 0), (HUGE, HUGE, HUGE)]), [(0, 0, 0)])

    def test_huge_numbers(self):
        self.assertEqual(least([(HUGE, 1), (HUGE - 1, 2), (HUGE, 2)]), [(HUGE - 1, 2), (HUGE, 1)])

    def test_made_lists(self):
        dice = random.Random(14)
        for each in range(500):
            stands = some_stands(dice, dice.randint(1, 6), 4, 20)
            self.assertEqual(least(stands), plain_least(stands))

    def test_the_order_of_the_list_does_not_matter(self):
        dice = random.Random(15)
        stands = some_stands(dice, 3, 9, 60) + [(0, 9, 9)]
        told = least(stands)
        for each in range(10):
            dice.shuffle(stands)
            self.assertEqual(least(stands), told)

    def test_three_hundred_stands_none_over_another(self):
        stands = [(k, 299 - k) for k in range(300)]
        self.assertEqual(least(stands[::-1]), stands)

    def test_kinds(self):
        self.assertIs(type(least([])), list)
        self.assertEqual([type(stand) for stand in least([(1, 0), (0, 1)])], [tuple, tuple])


class Lifted(unittest.TestCase):
    def test_small_ones(self):
        dice = random.Random(16)
        for each in range(100):
            basis = some_stands(dice, 2, 4, 4)
            for stand in grid(2, 4):
                self.assertIs(lifted(stand, basis), lifts(basis, stand))

    def test_the_empty_basis_lifts_nothing(self):
        self.assertIs(lifted((0,), []), False)
        self.assertIs(lifted((HUGE, HUGE), []), False)

    def test_any_list_of_stands(self):
        self.assertIs(lifted((1, 1), [(5, 5), (1, 0), (5, 5)]), True)
        self.assertIs(lifted((0, 9), [(5, 5), (1, 0), (1, 0)]), False)

    def test_no_two_together_lift_what_neither_does(self):
        self.assertIs(lifted((1, 1), [(2, 0), (0, 2)]), False)

    def test_huge_numbers(self):
        self.assertIs(lifted((HUGE,), [(HUGE,)]), True)
        self.assertIs(lifted((HUGE - 1,), [(HUGE,)]), False)


class Sources(unittest.TestCase):
    def test_ordinary_ones(self):
        self.assertEqual(source((3, 0), ((1, 0), (0, 2))), (4, 0))
        self.assertEqual(source((0, 5), ((1, 0), (0, 2))), (1, 3))
        self.assertEqual(source((0, 1), ((1, 3), (0, 2))), (1, 3))

    def test_more_is_put_than_asked(self):
        self.assertEqual(source((1,), ((0,), (TOP,))), (0,))
        self.assertEqual(source((1,), ((2,), (TOP,))), (2,))

    def test_just_the_stands_from_which_the_move_goes_and_covers(self):
        for made in some_moors(17, 150):
            many = len(made[0])
            if many > 3:
                continue
            for move in made[1]:
                told = source(made[0], move)
                for stand in grid(many, 7):
                    behind = walk(stand, (move,), [0])[0]
                    self.assertEqual(over(stand, told), behind is not None and over(behind, made[0]))

    def test_six_places_and_huge_numbers(self):
        stand = (HUGE, 0, TOP, 1, 2, 3)
        move = ((1, TOP, 0, 0, 5, 5), (0, TOP, TOP, 2, 1, 9))
        self.assertEqual(source(stand, move), (HUGE + 1, TOP, 0, 0, 6, 5))

    def test_kinds(self):
        self.assertIs(type(source((1, 2), ((0, 0), (1, 1)))), tuple)


class StepsBack(unittest.TestCase):
    def test_an_ordinary_step(self):
        moves = (((1, 0), (0, 1)), ((0, 2), (1, 0)))
        self.assertEqual(step_back(moves, [(0, 2)]), [(0, 2), (1, 1)])
        self.assertEqual(step_back(moves, [(0, 2), (1, 1)]), [(0, 2), (1, 1), (2, 0)])

    def test_its_own_stands_stay(self):
        moves = (((9,), (0,)),)
        self.assertEqual(step_back(moves, [(3,)]), [(3,)])

    def test_no_moves_and_no_stands(self):
        self.assertEqual(step_back((), [(1, 2), (0, 3)]), [(0, 3), (1, 2)])
        self.assertEqual(step_back((), []), [])
        for made in PLAIN:
            self.assertEqual(step_back(made[1], []), [])

    def test_any_list_of_stands(self):
        moves = (((1, 0), (0, 1)),)
        self.assertEqual(step_back(moves, [(5, 5), (0, 2), (0, 2), (9, 9)]), [(0, 2), (1, 1)])

    def test_made_steps(self):
        dice = random.Random(18)
        for made in list(PLAIN) + some_moors(19, 200):
            basis = some_stands(dice, len(made[0]), 4, 5)
            self.assertEqual(step_back(made[1], basis), plain_least(basis + plain_sources(made[1], basis)))

    def test_it_lifts_just_what_at_most_one_move_brings_there(self):
        dice = random.Random(20)
        for made in some_moors(21, 100):
            many = len(made[0])
            if many > 2:
                continue
            basis = some_stands(dice, many, 4, 4)
            told = step_back(made[1], basis)
            for stand in grid(many, 6):
                behind = [walk(stand, made[1], [k])[0] for k in range(len(made[1]))]
                there = [stand] + [one for one in behind if one is not None]
                self.assertEqual(lifts(told, stand), any(lifts(basis, one) for one in there))

    def test_a_hundred_stands_by_eight_moves_on_six_places(self):
        basis = [(k, 99 - k, 0, 0, 0, 0) for k in range(100)]
        moves = PLAIN[-1][1]
        self.assertEqual(step_back(moves, basis), plain_least(basis + plain_sources(moves, basis)))

    def test_kinds(self):
        told = step_back((((1,), (0,)),), [(1,)])
        self.assertEqual((type(told), type(told[0])), (list, tuple))
        self.assertIs(type(step_back((), [])), list)


class Shut(unittest.TestCase):
    def test_ordinary_ones(self):
        moves = (((1, 0), (0, 1)), ((0, 2), (1, 0)))
        self.assertIs(is_shut(moves, [(0, 2)]), False)
        self.assertIs(is_shut(moves, [(0, 2), (1, 1)]), False)
        self.assertIs(is_shut(moves, [(0, 2), (1, 1), (2, 0)]), True)

    def test_one_way_out_is_enough_to_break_it(self):
        stays, leaves = ((1, 0), (0, 0)), ((0, 0), (0, 1))
        self.assertIs(is_shut((stays, stays), [(0, 1)]), True)
        self.assertIs(is_shut((stays, leaves), [(0, 1)]), False)
        self.assertIs(is_shut((leaves, stays), [(0, 1)]), False)
        self.assertIs(is_shut((leaves,), [(1, 0), (0, 1)]), False)
        self.assertIs(is_shut((leaves,), [(0, 1), (1, 0)]), False)

    def test_no_moves_and_no_stands(self):
        self.assertIs(is_shut((), []), True)
        self.assertIs(is_shut((), [(1, 2), (0, 5)]), True)
        for made in PLAIN:
            self.assertIs(is_shut(made[1], []), True)
            self.assertIs(is_shut(made[1], [(0,) * len(made[0])]), True)

    def test_any_list_of_stands(self):
        moves = (((1, 0), (0, 1)),)
        self.assertIs(is_shut(moves, [(9, 9), (0, 1), (1, 0), (1, 0)]), True)
        self.assertIs(is_shut(moves, [(9, 9), (0, 1), (0, 1)]), False)

    def test_made_ones(self):
        dice = random.Random(22)
        seen = {True: 0, False: 0}
        for made in some_moors(23, 400):
            basis = some_stands(dice, len(made[0]), 2, 6)
            shut = all(lifts(basis, one) for one in plain_sources(made[1], basis))
            self.assertIs(is_shut(made[1], basis), shut)
            self.assertIs(shut, step_back(made[1], basis) == least(basis))
            seen[shut] += 1
        self.assertTrue(min(seen.values()) > 20)

    def test_huge_numbers(self):
        moves = (((0,), (1,)),)
        self.assertIs(is_shut(moves, [(HUGE,)]), False)
        self.assertIs(is_shut((((1,), (0,)),), [(HUGE,)]), True)


class EitherAndBoth(unittest.TestCase):
    def test_ordinary_ones(self):
        one, other = [(0, 3), (2, 0)], [(1, 1)]
        self.assertEqual(either(one, other), [(0, 3), (1, 1), (2, 0)])
        self.assertEqual(both(one, other), [(1, 3), (2, 1)])

    def test_the_empty_list(self):
        self.assertEqual(either([], []), [])
        self.assertEqual(both([], []), [])
        self.assertEqual(either([], [(2, 2), (1, 1)]), [(1, 1)])
        self.assertEqual(either([(2, 2), (1, 1)], []), [(1, 1)])
        self.assertEqual(both([], [(1, 1)]), [])
        self.assertEqual(both([(1, 1)], []), [])

    def test_any_lists_of_stands(self):
        self.assertEqual(either([(5, 5), (1, 0), (1, 0)], [(0, 1), (1, 0)]), [(0, 1), (1, 0)])
        self.assertEqual(both([(5, 5), (1, 0), (1, 0)], [(0, 1), (7, 7)]), [(1, 1)])

    def test_they_lift_what_one_or_what_each_lifts(self):
        dice = random.Random(24)
        for each in range(200):
            many = dice.randint(1, 3)
            one, other = some_stands(dice, many, 4, 5), some_stands(dice, many, 4, 5)
            any_of, all_of = either(one, other), both(one, other)
            self.assertEqual(any_of, plain_least(any_of))
            self.assertEqual(all_of, plain_least(all_of))
            for stand in grid(many, 5):
                self.assertEqual(lifts(any_of, stand), lifts(one, stand) or lifts(other, stand))
                self.assertEqual(lifts(all_of, stand), lifts(one, stand) and lifts(other, stand))

    def test_which_comes_first_does_not_matter(self):
        dice = random.Random(25)
        for each in range(50):
            one, other = some_stands(dice, 6, 9, 8), some_stands(dice, 6, 9, 8)
            self.assertEqual(either(one, other), either(other, one))
            self.assertEqual(both(one, other), both(other, one))

    def test_great_bases_and_huge_numbers(self):
        one = [(HUGE + k, HUGE - k, 0, 0) for k in range(30)]
        other = [(0, 0, HUGE + k, HUGE - k) for k in range(30)]
        self.assertEqual(both(one, other), [a[:2] + b[2:] for a in one for b in other])
        self.assertEqual(either(one, other), other + one)

    def test_kinds(self):
        for told in (either([(1,)], [(2,)]), both([(1,)], [(2,)])):
            self.assertEqual((type(told), type(told[0])), (list, tuple))


if __name__ == "__main__":
    unittest.main()
