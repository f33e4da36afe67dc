import random
import unittest

from helpers import HUGE, PLAIN, TOP, grid, over, some_moors, some_stand
from tokenmoor.errors import MoorError, NoMoor, NoName, NoRow, NoText, Stuck
from tokenmoor.moors import able, after, change, covers, is_count, moor

NO_COUNTS = (True, False, -1, -TOP, TOP + 1, HUGE, -HUGE, None, "1", "", 1.0, 0.0, float("nan"), b"1", 1j,
             [], [1], (), (1,), {}, {1: 1}, {1}, int, object(), range(1), Stuck(0))
NO_LISTS = (None, True, 0, 1, 2, "", "12", b"12", {}, {0: 1, 1: 2}, {1, 2}, range(2), iter([1, 2]), 1.5, object(), list)


class Counts(unittest.TestCase):
    def test_counts(self):
        for count in (0, 1, 2, 17, TOP - 1, TOP):
            self.assertIs(is_count(count), True)

    def test_no_counts(self):
        for thing in NO_COUNTS:
            self.assertIs(is_count(thing), False, thing)


class MadeMoors(unittest.TestCase):
    def test_a_moor_of_tuples_is_told_as_it_stands(self):
        for begin, moves in list(PLAIN) + some_moors(1, 100):
            self.assertEqual(moor(begin, moves), (begin, moves))

    def test_lists_become_tuples_all_through(self):
        for begin, moves in PLAIN:
            listed = [[list(take), list(put)] for take, put in moves]
            told = moor(list(begin), listed)
            self.assertEqual(told, (begin, moves))
            self.all_tuples(told)

    def test_lists_and_tuples_mixed(self):
        made = ((1, 2), (((0, 1), (1, 0)), ((2, 0), (0, 3))))
        mixes = (
            ([1, 2], (((0, 1), (1, 0)), ((2, 0), (0, 3)))),
            ((1, 2), [((0, 1), (1, 0)), ((2, 0), (0, 3))]),
            ((1, 2), ([(0, 1), (1, 0)], ((2, 0), (0, 3)))),
            ((1, 2), (([0, 1], (1, 0)), ((2, 0), (0, 3)))),
            ((1, 2), (((0, 1), (1, 0)), ((2, 0), [0, 3]))),
            ([1, 2], [((0, 1), [1, 0]), [[2, 0], (0, 3)]]),
        )
        for begin, moves in mixes:
            told = moor(begin, moves)
            self.assertEqual(told, made)
            self.all_tuples(told)

    def all_tuples(self, told):
        self.assertIs(type(told), tuple)
        self.assertIs(type(told[0]), tuple)
        self.assertIs(type(told[1]), tuple)
        for move in told[1]:
            self.assertEqual([type(part) for part in (move, move[0], move[1])], [tuple, tuple, tuple])

    def test_edges_that_are_moors(self):
        nought = ((0,), (0,))
        self.assertEqual(moor([0], []), ((0,), ()))
        self.assertEqual(moor((TOP,), ()), ((TOP,), ()))
        self.assertEqual(moor([0] * 6, []), ((0,) * 6, ()))
        self.assertEqual(moor([0], [nought] * 8), ((0,), (nought,) * 8))
        self.assertEqual(moor([0] * 6, [([TOP] * 6, [TOP] * 6)] * 8), ((0,) * 6, (((TOP,) * 6, (TOP,) * 6),) * 8))

    def test_later_changes_of_what_was_handed_in_do_not_reach_the_moor(self):
        begin, take, put = [1, 2], [0, 1], [3, 0]
        moves = [[take, put]]
        told = moor(begin, moves)
        begin[0] = take[0] = put[0] = 9
        moves.append("no move")
        self.assertEqual(told, ((1, 2), (((0, 1), (3, 0)),)))


class NoMoors(unittest.TestCase):
    def refused(self, begin, moves):
        with self.assertRaises(NoMoor) as caught:
            moor(begin, moves)
        self.assertIsInstance(caught.exception, MoorError)
        self.assertNotIsInstance(caught.exception, (Stuck, NoText, NoName, NoRow))

    def test_a_begin_that_is_no_list_or_tuple(self):
        for thing in NO_LISTS:
            self.refused(thing, [])

    def test_a_begin_of_a_wrong_length(self):
        for many in (0, 7, 8, 300):
            self.refused([0] * many, [])
            self.refused((0,) * many, ())
            self.refused([0] * many, [([0] * many, [0] * many)])

    def test_a_begin_with_something_that_is_no_count(self):
        for thing in NO_COUNTS:
            self.refused([thing], [])
            self.refused((0, thing), [])
            self.refused([thing, 0], [])
            self.refused([0, 0, 0, 0, 0, thing], [])

    def test_moves_that_are_no_list_or_tuple(self):
        for thing in NO_LISTS:
            self.refused([0, 0], thing)

    def test_more_than_eight_moves(self):
        for many in (9, 10, 300):
            self.refused([0], [((0,), (0,))] * many)
            self.refused([0], (((0,), (0,)),) * many)

    def test_a_move_that_is_no_list_or_tuple(self):
        good = ((0, 0), (0, 0))
        for thing in NO_LISTS:
            self.refused([0, 0], [thing])
            self.refused([0, 0], [good, thing])
            self.refused([0, 0], [good] * 7 + [thing])

    def test_a_move_of_a_wrong_length(self):
        for move in ((), ((0,),), ((0,), (0,), (0,)), [[0]], [[0], [0], [0]], [(0,), (0,), 1]):
            self.refused([0], [move])
            self.refused([0], [((0,), (0,)), move])

    def test_a_take_or_a_put_that_is_no_list_or_tuple(self):
        for thing in NO_LISTS:
            self.refused([0, 0], [(thing, (0, 0))])
            self.refused([0, 0], [((0, 0), thing)])

    def test_a_take_or_a_put_of_a_wrong_length(self):
        for many in range(1, 7):
            for wrong in (0, many - 1, many + 1, 300):
                self.refused([0] * many, [((0,) * wrong, (0,) * many)])
                self.refused([0] * many, [([0] * many, [0] * wrong)])
                self.refused([0] * many, [((0,) * wrong, (0,) * wrong)])

    def test_a_take_or_a_put_with_something_that_is_no_count(self):
        for thing in NO_COUNTS:
            self.refused([0, 0], [((thing, 0), (0, 0))])
            self.refused([0, 0], [((0, thing), (0, 0))])
            self.refused([0, 0], [((0, 0), [thing, 0])])
            self.refused([0, 0], [((0, 0), [0, thing])])
            self.refused([0, 0], [((0, 0), (0, 0))] * 7 + [((0, 0), [0, thing])])


class Covering(unittest.TestCase):
    def test_small_stands(self):
        for many in (1, 2, 3):
            for stand in grid(many, 2):
                for other in grid(many, 2):
                    self.assertIs(covers(stand, other), over(stand, other))

    def test_six_places_one_of_them_less(self):
        stand = (5, 5, 5, 5, 5, 5)
        self.assertIs(covers(stand, stand), True)
        for place in range(6):
            more = tuple(6 if p == place else 0 for p in range(6))
            self.assertIs(covers(stand, more), False)
            self.assertIs(covers(more, stand), False)

    def test_huge_numbers(self):
        self.assertIs(covers((HUGE, 0), (HUGE, 0)), True)
        self.assertIs(covers((HUGE, 0), (HUGE - 1, 0)), True)
        self.assertIs(covers((HUGE - 1, 0), (HUGE, 0)), False)


class Moves(unittest.TestCase):
    def test_an_ordinary_move(self):
        move = ((2, 0, 1), (0, 3, 1))
        self.assertIs(able((2, 0, 1), move), True)
        self.assertEqual(after((2, 0, 1), move), (0, 3, 1))
        self.assertEqual(after((5, 1, 4), move), (3, 4, 4))
        self.assertEqual(change(move), (-2, 3, 0))

    def test_what_it_puts_does_not_help_it_to_take(self):
        move = ((1,), (5,))
        self.assertIs(able((0,), move), False)
        self.stuck((0,), move)

    def test_made_moves_from_made_stands(self):
        dice = random.Random(2)
        for begin, moves in some_moors(3, 200):
            for move in moves:
                stand = some_stand(dice, len(begin), 3)
                self.assertEqual(change(move), tuple(p - t for t, p in zip(*move)))
                if over(stand, move[0]):
                    self.assertIs(able(stand, move), True)
                    self.assertEqual(after(stand, move), tuple(s - t + p for s, t, p in zip(stand, *move)))
                else:
                    self.assertIs(able(stand, move), False)
                    self.stuck(stand, move)

    def test_edges(self):
        self.assertEqual(after((0,), ((0,), (0,))), (0,))
        self.assertEqual(change(((0,), (0,))), (0,))
        self.assertEqual(after((TOP,), ((TOP,), (0,))), (0,))
        self.assertEqual(after((TOP,), ((0,), (TOP,))), (2 * TOP,))
        self.assertEqual(change(((TOP, 0), (0, TOP))), (-TOP, TOP))
        self.stuck((TOP - 1,), ((TOP,), (0,)))

    def test_stands_with_huge_numbers(self):
        move = ((TOP, 1), (0, TOP))
        self.assertIs(able((HUGE, HUGE), move), True)
        self.assertEqual(after((HUGE, HUGE), move), (HUGE - TOP, HUGE - 1 + TOP))
        self.assertIs(able((HUGE, 0), move), False)
        self.stuck((HUGE, 0), move)

    def test_kinds(self):
        move = ((1, 0), (0, 1))
        self.assertIs(type(after((1, 1), move)), tuple)
        self.assertIs(type(change(move)), tuple)

    def stuck(self, stand, move):
        with self.assertRaises(Stuck) as caught:
            after(stand, move)
        self.assertEqual(caught.exception.at, 0)
        self.assertIs(type(caught.exception.at), int)
        self.assertNotIsInstance(caught.exception, (NoMoor, NoText, NoName, NoRow))


if __name__ == "__main__":
    unittest.main()
