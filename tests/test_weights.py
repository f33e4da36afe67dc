import random
import unittest

from helpers import HUGE, PLAIN, TOP, made_moors, plain_changes, plain_falling, plain_weight, some_row, walk
from tokenmoor.weights import is_balance, is_falling, weigh

# Move 0 makes two counters of one, move 1 one of two.
MOVES = (((1, 0), (0, 2)), ((0, 2), (1, 0)))


def made_weights(seed, how_many):
    """Moves with weights, among them such as are a balance or falling."""
    dice = random.Random(seed)
    for made in made_moors(seed, how_many):
        moves = made[1][:dice.choice((1, 1, 2, 8))]
        for numbers in ((-2, -1, 0, 1, 2), (0, 0, 0, 1), (0, 1, 2, 3), (-HUGE, 0, 0, HUGE)):
            yield made[0], moves, tuple(dice.choice(numbers) for place in made[0])


class Weigh(unittest.TestCase):
    def test_ordinary_ones(self):
        self.assertEqual(weigh((2, 1), (3, 4)), 10)
        self.assertEqual(weigh((2, -1), (3, 4)), 2)
        self.assertEqual(weigh((2, 1), (-3, 4)), -2)
        self.assertEqual(weigh((-2, -1), (-3, -4)), 10)
        self.assertEqual(weigh((5,), (7,)), 35)

    def test_noughts_alone(self):
        for many in range(1, 7):
            self.assertEqual(weigh((0,) * many, (HUGE,) * many), 0)
            self.assertEqual(weigh((-HUGE,) * many, (0,) * many), 0)

    def test_each_place_counts(self):
        for place in range(6):
            weights = tuple(10 ** p for p in range(6))
            self.assertEqual(weigh(weights, tuple(int(p == place) for p in range(6))), 10 ** place)

    def test_huge_numbers(self):
        self.assertEqual(weigh((HUGE, -HUGE), (HUGE, 1)), HUGE * HUGE - HUGE)

    def test_made_ones(self):
        dice = random.Random(91)
        for each in range(300):
            many = dice.randint(1, 6)
            weights = tuple(dice.choice((-HUGE, -TOP, dice.randint(-9, 9))) for place in range(many))
            counts = tuple(dice.choice((HUGE, -TOP, dice.randint(-9, 9))) for place in range(many))
            self.assertEqual(weigh(weights, counts), plain_weight(weights, counts))

    def test_kinds(self):
        self.assertIs(type(weigh((1, 2), (3, 4))), int)


class Balance(unittest.TestCase):
    def test_ordinary_ones(self):
        self.assertIs(is_balance(MOVES, (2, 1)), True)
        self.assertIs(is_balance(MOVES, (-4, -2)), True)
        self.assertIs(is_balance(MOVES, (1, 1)), False)
        self.assertIs(is_balance(MOVES, (1, 2)), False)

    def test_one_move_that_changes_the_weight_is_enough_to_break_it(self):
        for more in (((0, 0), (1, 0)), ((1, 0), (0, 0)), ((1, 0), (0, 1))):
            for at in range(3):
                self.assertIs(is_balance(MOVES[:at] + (more,) + MOVES[at:], (2, 1)), False)

    def test_changes_that_only_even_out_together_are_no_balance(self):
        self.assertIs(is_balance((((0,), (1,)), ((1,), (0,))), (1,)), False)

    def test_noughts_alone_and_no_moves(self):
        for begin, moves in PLAIN:
            self.assertIs(is_balance(moves, (0,) * len(begin)), True)
            self.assertIs(is_balance((), (-3,) * len(begin)), True)

    def test_great_numbers(self):
        moves = (((TOP, 0), (0, 1)),)
        self.assertIs(is_balance(moves, (HUGE, TOP * HUGE)), True)
        self.assertIs(is_balance(moves, (HUGE, TOP * HUGE + 1)), False)

    def test_made_ones(self):
        seen = {True: 0, False: 0}
        dice = random.Random(92)
        for begin, moves, weights in made_weights(93, 250):
            even = all(number == 0 for number in plain_changes(moves, weights))
            self.assertIs(is_balance(moves, weights), even)
            seen[even] += 1
            row = some_row(dice, moves, 5)
            stand = (TOP * 9,) * len(begin)
            if even:
                self.assertEqual(weigh(weights, walk(stand, moves, row)[0]), weigh(weights, stand))
        self.assertTrue(min(seen.values()) > 50)


class Falling(unittest.TestCase):
    def test_ordinary_ones(self):
        self.assertIs(is_falling(MOVES, (2, 1)), True)
        self.assertIs(is_falling(MOVES[:1], (3, 1)), True)
        self.assertIs(is_falling(MOVES[:1], (1, 1)), False)
        self.assertIs(is_falling(MOVES[1:], (1, 1)), True)
        self.assertIs(is_falling(MOVES, (1, 1)), False)

    def test_weights_below_nought_are_never_falling(self):
        self.assertIs(is_falling(MOVES, (-2, -1)), False)
        self.assertIs(is_falling((), (0, -1)), False)
        self.assertIs(is_falling((), (-1, 5)), False)
        self.assertIs(is_falling((((0, 0), (0, 1)),), (1, -1)), False)

    def test_noughts_alone_and_no_moves(self):
        for begin, moves in PLAIN:
            self.assertIs(is_falling(moves, (0,) * len(begin)), True)
            self.assertIs(is_falling((), (HUGE,) * len(begin)), True)

    def test_one_move_that_lifts_the_weight_is_enough_to_break_it(self):
        for at in range(3):
            self.assertIs(is_falling(MOVES[:at] + (((0, 0), (1, 0)),) + MOVES[at:], (2, 1)), False)
            self.assertIs(is_falling(MOVES[:at] + (((1, 0), (0, 0)),) + MOVES[at:], (2, 1)), True)

    def test_great_numbers(self):
        moves = (((TOP, 0), (0, 1)),)
        self.assertIs(is_falling(moves, (HUGE, TOP * HUGE)), True)
        self.assertIs(is_falling(moves, (HUGE, TOP * HUGE + 1)), False)
        self.assertIs(is_falling(moves, (HUGE, TOP * HUGE - 1)), True)

    def test_made_ones(self):
        seen = {True: 0, False: 0}
        dice = random.Random(94)
        for begin, moves, weights in made_weights(95, 250):
            falls = plain_falling(moves, weights)
            self.assertIs(is_falling(moves, weights), falls)
            seen[falls] += 1
            row = some_row(dice, moves, 5)
            stand = (TOP * 9,) * len(begin)
            if falls:
                self.assertLessEqual(weigh(weights, walk(stand, moves, row)[0]), weigh(weights, stand))
        self.assertTrue(min(seen.values()) > 50)


if __name__ == "__main__":
    unittest.main()
