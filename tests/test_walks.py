import random
import unittest

from helpers import HUGE, PLAIN, TOP, grid, over, some_moors, some_row, some_stand, walk
from tokenmoor.errors import MoorError, NoMoor, NoName, NoRow, NoText, Stuck
from tokenmoor.walks import hurdle, run, stands_of, stride, sum_of

# From place to place and back, and a move that makes two of one.
RING = ((2, 0), (((1, 0), (0, 1)), ((0, 1), (1, 0)), ((0, 1), (0, 2))))


class Walks(unittest.TestCase):
    def stuck(self, at, call, *handed):
        with self.assertRaises(Stuck) as caught:
            call(*handed)
        self.assertEqual(caught.exception.at, at)
        self.assertIs(type(caught.exception.at), int)
        self.assertIsInstance(caught.exception, MoorError)
        self.assertNotIsInstance(caught.exception, (NoMoor, NoText, NoName, NoRow))


class Rows(Walks):
    def test_an_ordinary_row(self):
        self.assertEqual(run(RING, (2, 0), [0, 2, 1]), (2, 1))
        self.assertEqual(stands_of(RING, (2, 0), [0, 2, 1]), [(2, 0), (1, 1), (1, 2), (2, 1)])

    def test_it_goes_from_the_stand_and_not_from_the_begin(self):
        self.assertEqual(run(RING, (0, 1), [1]), (1, 0))
        self.assertEqual(stands_of(RING, (0, 1), [1]), [(0, 1), (1, 0)])
        self.stuck(0, run, RING, (0, 1), [0])

    def test_a_row_without_moves(self):
        for begin, moves in PLAIN:
            self.assertEqual(run((begin, moves), begin, []), begin)
            self.assertEqual(stands_of((begin, moves), begin, []), [begin])
        self.assertEqual(run(((0,), ()), (HUGE,), []), (HUGE,))

    def test_stuck_tells_how_many_went_before(self):
        for row, at in (([1], 0), ([0, 0, 0], 2), ([0, 0, 1, 1, 1, 0], 4), ([0, 1, 2, 0], 2)):
            self.stuck(at, run, RING, (2, 0), row)
            self.stuck(at, stands_of, RING, (2, 0), row)

    def test_made_rows(self):
        dice = random.Random(4)
        went, held = 0, 0
        for made in some_moors(5, 400):
            row = some_row(dice, made[1], 6)
            stand = some_stand(dice, len(made[0]), 6)
            behind, at = walk(stand, made[1], row)
            if behind is None:
                held += 1
                self.stuck(at, run, made, stand, row)
                self.stuck(at, stands_of, made, stand, row)
            else:
                went += 1
                self.assertEqual(run(made, stand, row), behind)
                told = stands_of(made, stand, row)
                self.assertEqual(told, [walk(stand, made[1], row[:k])[0] for k in range(len(row) + 1)])
        self.assertTrue(went > 50 and held > 50)

    def test_three_hundred_moves(self):
        self.assertEqual(run(RING, (1, 0), [0, 1] * 150), (1, 0))
        self.assertEqual(len(stands_of(RING, (1, 0), [0, 1] * 150)), 301)
        self.assertEqual(run(RING, (0, 1), [2] * 300), (0, 301))
        self.stuck(299, run, RING, (299, 0), [0] * 300)

    def test_huge_stands(self):
        self.assertEqual(run(RING, (HUGE, HUGE), [0, 0, 2]), (HUGE - 2, HUGE + 3))
        self.assertEqual(stands_of(RING, (HUGE, 0), [0]), [(HUGE, 0), (HUGE - 1, 1)])

    def test_eight_moves_on_six_places(self):
        made = PLAIN[-1]
        self.assertEqual(run(made, made[0], list(range(8))), walk(made[0], made[1], list(range(8)))[0])

    def test_kinds(self):
        self.assertIs(type(run(RING, (2, 0), [0])), tuple)
        told = stands_of(RING, (2, 0), [0, 1])
        self.assertIs(type(told), list)
        self.assertEqual([type(stand) for stand in told], [tuple, tuple, tuple])


class HurdlesAndSums(Walks):
    def test_an_ordinary_row(self):
        self.assertEqual(hurdle(RING, [0, 0, 1]), (2, 0))
        self.assertEqual(hurdle(RING, [1, 0, 0]), (1, 1))
        self.assertEqual(hurdle(RING, [2, 1, 1, 1]), (0, 2))
        self.assertEqual(sum_of(RING, [0, 0, 1]), (-1, 1))
        self.assertEqual(sum_of(RING, [2, 1, 1, 1]), (3, -2))

    def test_without_moves(self):
        for made in PLAIN:
            self.assertEqual(hurdle(made, []), (0,) * len(made[0]))
            self.assertEqual(sum_of(made, []), (0,) * len(made[0]))

    def test_the_hurdle_is_covered_by_just_the_stands_from_which_the_row_goes(self):
        dice = random.Random(6)
        for made in some_moors(7, 300):
            many = len(made[0])
            if many > 3:
                continue
            row = some_row(dice, made[1], 4)
            told = hurdle(made, row)
            for stand in grid(many, 5 if many == 3 else 8):
                self.assertEqual(over(stand, told), walk(stand, made[1], row)[0] is not None)

    def test_the_hurdle_goes_and_one_less_at_any_place_does_not(self):
        dice = random.Random(8)
        for made in some_moors(9, 200):
            row = some_row(dice, made[1], 20)
            told = hurdle(made, row)
            self.assertIsNotNone(walk(told, made[1], row)[0])
            for place, number in enumerate(told):
                if number > 0:
                    short = tuple(HUGE if p != place else number - 1 for p in range(len(told)))
                    self.assertIsNone(walk(short, made[1], row)[0])

    def test_the_sum_is_what_the_row_changes(self):
        dice = random.Random(10)
        for made in some_moors(11, 200):
            row = some_row(dice, made[1], 20)
            stand = (1000,) * len(made[0])
            behind = walk(stand, made[1], row)[0]
            self.assertEqual(sum_of(made, row), tuple(b - s for b, s in zip(behind, stand)))

    def test_great_counts(self):
        made = ((0, 0), (((TOP, 0), (0, 0)), ((0, 0), (0, TOP)), ((0, TOP), (TOP, 0))))
        self.assertEqual(hurdle(made, [0] * 300), (300 * TOP, 0))
        self.assertEqual(sum_of(made, [0] * 300), (-300 * TOP, 0))
        self.assertEqual(hurdle(made, [1, 2, 0]), (0, 0))
        self.assertEqual(sum_of(made, [1, 1, 2]), (TOP, TOP))

    def test_the_begin_does_not_matter(self):
        for begin in ((0, 0), (HUGE, 5)):
            self.assertEqual(hurdle((begin, RING[1]), [1, 0, 0]), (1, 1))
            self.assertEqual(sum_of((begin, RING[1]), [1, 0, 0]), (-1, 1))

    def test_kinds(self):
        for row in ([], [0], [0, 1]):
            self.assertIs(type(hurdle(RING, row)), tuple)
            self.assertIs(type(sum_of(RING, row)), tuple)


def gone_through(stand, moves, blocks):
    """As stride, but move by move: the stand, or the number of the block that can't go."""
    here = stand
    for at, (row, times) in enumerate(blocks):
        for each in range(times):
            here = walk(here, moves, row)[0]
            if here is None:
                return None, at
    return here, len(blocks)


class Blocks(Walks):
    def test_ordinary_blocks(self):
        self.assertEqual(stride(RING, (2, 0), [([0], 2), ([2], 3), ([1], 5)]), (5, 0))
        self.assertEqual(stride(RING, (2, 0), [([0, 2, 1], 4)]), (2, 4))

    def test_no_blocks(self):
        for made in PLAIN:
            self.assertEqual(stride(made, made[0], []), made[0])

    def test_times_nought_and_no_moves_always_go(self):
        for times in (0, 1, 2, HUGE):
            self.assertEqual(stride(RING, (0, 0), [([], times)]), (0, 0))
        self.assertEqual(stride(RING, (0, 0), [([0], 0), ([1, 1, 1], 0), ([], HUGE), ([2], 0)]), (0, 0))
        self.assertEqual(stride(((0,), ()), (7,), [([], 3), ([], 0)]), (7,))

    def test_they_count_among_the_blocks_before(self):
        self.stuck(2, stride, RING, (0, 0), [([0], 0), ([], 5), ([0], 1)])
        self.stuck(0, stride, RING, (0, 0), [([0], 1), ([0], 0)])

    def test_stuck_at_the_first_time(self):
        self.stuck(0, stride, RING, (2, 0), [([1], 1)])
        self.stuck(1, stride, RING, (2, 0), [([0], 2), ([0], 1)])

    def test_stuck_at_a_later_time(self):
        self.assertEqual(stride(RING, (2, 0), [([0], 2)]), (0, 2))
        self.stuck(0, stride, RING, (2, 0), [([0], 3)])
        self.stuck(1, stride, RING, (2, 0), [([0], 1), ([0], 2)])
        self.stuck(0, stride, RING, (2, 0), [([0], HUGE)])

    def test_stuck_within_a_row_whose_sum_takes_nothing(self):
        self.stuck(0, stride, RING, (1, 0), [([1, 0], 1)])
        self.stuck(0, stride, RING, (1, 0), [([1, 0], HUGE)])
        self.assertEqual(stride(RING, (1, 0), [([0, 1], HUGE)]), (1, 0))

    def test_a_row_that_lifts_what_it_needs_helps_only_later(self):
        made = ((0,), (((3,), (5,)),))
        self.stuck(0, stride, made, (2,), [([0], HUGE)])
        self.assertEqual(stride(made, (3,), [([0], HUGE)]), (3 + 2 * HUGE,))

    def test_made_blocks_as_if_gone_through_move_by_move(self):
        dice = random.Random(12)
        went, held = 0, 0
        for made in some_moors(13, 1500):
            blocks = [(some_row(dice, made[1], 3), dice.randint(0, 5)) for each in range(dice.randint(0, 4))]
            stand = some_stand(dice, len(made[0]), 9)
            behind, at = gone_through(stand, made[1], blocks)
            if behind is None:
                held += 1
                self.stuck(at, stride, made, stand, blocks)
            else:
                went += 1
                self.assertEqual(stride(made, stand, blocks), behind)
        self.assertTrue(went > 200 and held > 200)

    def test_huge_times_to_the_last_counter(self):
        for times in (10 ** 18, HUGE):
            self.assertEqual(stride(RING, (times, 0), [([0], times)]), (0, times))
            self.stuck(0, stride, RING, (times - 1, 0), [([0], times)])
            self.assertEqual(stride(RING, (0, 1), [([2], times), ([1], times + 1)]), (times + 1, 0))
            self.stuck(1, stride, RING, (0, 1), [([2], times), ([1], times + 2)])

    def test_huge_times_with_two_moves_of_a_row(self):
        made = ((0, 0), (((2, 0), (0, 1)), ((1, 1), (2, 0))))
        # The row takes 1 on the whole, but needs 3 each time.
        self.assertEqual(stride(made, (HUGE + 2, 0), [([0, 1], HUGE)]), (2, 0))
        self.stuck(0, stride, made, (HUGE + 1, 0), [([0, 1], HUGE)])

    def test_great_counts_and_huge_times(self):
        made = ((0, 0), (((0, 0), (TOP, 0)), ((TOP, 0), (0, TOP))))
        self.assertEqual(stride(made, (0, 0), [([0], HUGE), ([1], HUGE)]), (0, HUGE * TOP))
        self.stuck(1, stride, made, (0, 0), [([0], HUGE), ([1], HUGE + 1), ([0], 1)])

    def test_many_blocks(self):
        self.assertEqual(stride(RING, (HUGE, 0), [([0], HUGE), ([1], HUGE)] * 150), (HUGE, 0))
        self.stuck(299, stride, RING, (1, 0), [([0], 1), ([1], 1)] * 149 + [([0], 1), ([1], 2)])

    def test_kinds(self):
        self.assertIs(type(stride(RING, (2, 0), [])), tuple)
        self.assertIs(type(stride(RING, (2, 0), [([0], 2)])), tuple)


if __name__ == "__main__":
    unittest.main()
