import itertools
import random
import unittest

from helpers import TOP, made_moves, some_row, walk
from slow import all_sets, dry_break, plain_greatest, plain_least_sets, wet_break
from tokenmoor.sets import (
    breaks_dry, breaks_wet, greatest_dry, greatest_wet, is_dry, is_wet, least_dry, least_wet, turned)

# Move 0 carries a counter from place 0 to place 1, move 1 makes one at place 2, move 2 takes one there away.
MOVES = (((1, 0, 0), (0, 1, 0)), ((0, 0, 0), (0, 0, 1)), ((0, 0, 1), (0, 0, 0)))


class DryAndWet(unittest.TestCase):
    def test_ordinary_ones(self):
        self.assertIs(is_dry(MOVES, (0,)), True)
        self.assertIs(is_dry(MOVES, (1,)), False)
        self.assertIs(is_dry(MOVES, (0, 1)), True)
        self.assertIs(is_dry(MOVES, (2,)), False)
        self.assertIs(is_wet(MOVES, (0,)), False)
        self.assertIs(is_wet(MOVES, (1,)), True)
        self.assertIs(is_wet(MOVES, (0, 1)), True)
        self.assertIs(is_wet(MOVES, (2,)), False)

    def test_what_breaks_them_is_the_first_such_move(self):
        self.assertIsNone(breaks_dry(MOVES, (0,)))
        self.assertEqual(breaks_dry(MOVES, (1,)), 0)
        self.assertEqual(breaks_dry(MOVES, (2,)), 1)
        self.assertEqual(breaks_dry(MOVES, (1, 2)), 0)
        self.assertEqual(breaks_dry(MOVES, (0, 1, 2)), 1)
        self.assertEqual(breaks_dry(MOVES + MOVES, (2,)), 1)
        self.assertIsNone(breaks_wet(MOVES, (1,)))
        self.assertEqual(breaks_wet(MOVES, (0,)), 0)
        self.assertEqual(breaks_wet(MOVES, (2,)), 2)
        self.assertEqual(breaks_wet(MOVES, (0, 2)), 0)
        self.assertEqual(breaks_wet(MOVES, (0, 1, 2)), 2)

    def test_how_many_counters_doesn_t_matter(self):
        for take, put in ((1, TOP), (TOP, 1), (TOP, TOP), (1, 1)):
            self.assertIs(is_dry((((take,), (put,)),), (0,)), True)
            self.assertIs(is_wet((((take,), (put,)),), (0,)), True)
            self.assertIs(is_dry((((take, 0), (0, put)),), (0, 1)), True)
            self.assertIs(is_wet((((take, 0), (0, put)),), (0, 1)), True)

    def test_the_set_of_no_places_is_both(self):
        for moves, many in made_moves(131, 50):
            self.assertIs(is_dry(moves, ()), True)
            self.assertIs(is_wet(moves, ()), True)
            self.assertIsNone(breaks_dry(moves, ()))
            self.assertIsNone(breaks_wet(moves, ()))

    def test_the_set_of_all_places(self):
        for moves, many in made_moves(132, 50):
            places = tuple(range(many))
            makers = [number for number, (take, put) in enumerate(moves) if any(put) and not any(take)]
            losers = [number for number, (take, put) in enumerate(moves) if any(take) and not any(put)]
            self.assertEqual(breaks_dry(moves, places), makers[0] if makers else None)
            self.assertEqual(breaks_wet(moves, places), losers[0] if losers else None)

    def test_without_moves_every_set_is_both(self):
        for many in range(1, 7):
            for places in all_sets(many):
                self.assertIs(is_dry((), places), True)
                self.assertIs(is_wet((), places), True)

    def test_moves_that_put_what_they_take_break_nothing(self):
        for many in range(1, 7):
            moves = tuple((places, places) for places in itertools.product((0, 2), repeat=many))[:8]
            for places in all_sets(many):
                self.assertIsNone(breaks_dry(moves, places))
                self.assertIsNone(breaks_wet(moves, places))

    def test_each_set_of_made_moves(self):
        seen = {}
        for moves, many in made_moves(133, 100):
            for places in all_sets(many):
                dry = dry_break(moves, places)
                wet = wet_break(moves, places)
                self.assertEqual(breaks_dry(moves, places), dry)
                self.assertEqual(breaks_wet(moves, places), wet)
                self.assertIs(is_dry(moves, places), dry is None)
                self.assertIs(is_wet(moves, places), wet is None)
                seen[(dry is None, wet is None)] = seen.get((dry is None, wet is None), 0) + 1
        self.assertTrue(len(seen) == 4 and min(seen.values()) > 300, seen)

    def test_kinds(self):
        self.assertIs(type(breaks_dry(MOVES, (1,))), int)
        self.assertIs(type(breaks_wet(MOVES, (0,))), int)

    def test_they_hold_behind_every_row_that_can_go(self):
        dice = random.Random(134)
        seen = [0, 0]
        for moves, many in made_moves(135, 150):
            for places in all_sets(many):
                row = some_row(dice, moves, 3)
                empty = tuple(0 if place in places else TOP * 9 for place in range(many))
                stand = walk(empty, moves, row)[0]
                if is_dry(moves, places) and stand is not None and row:
                    self.assertFalse(any(stand[place] for place in places))
                    seen[0] += 1
                begin = tuple(dice.randint(0, 2) for place in range(many))
                stand = walk(begin, moves, row)[0]
                if is_wet(moves, places) and stand is not None and any(begin[place] for place in places) and row:
                    self.assertTrue(any(stand[place] for place in places))
                    seen[1] += 1
        self.assertTrue(min(seen) > 100, seen)


class GreatestAndLeast(unittest.TestCase):
    def test_ordinary_ones(self):
        self.assertEqual(greatest_dry(MOVES, (0, 1, 2)), (0, 1))
        self.assertEqual(greatest_dry(MOVES, (1, 2)), ())
        self.assertEqual(greatest_dry(MOVES, (0,)), (0,))
        self.assertEqual(greatest_wet(MOVES, (0, 1, 2)), (0, 1))
        self.assertEqual(greatest_wet(MOVES, (0, 2)), ())
        self.assertEqual(greatest_wet(MOVES, (1, 2)), (1,))
        self.assertEqual(least_dry(MOVES, 3), [(0,)])
        self.assertEqual(least_wet(MOVES, 3), [(1,)])

    def test_a_place_left_out_may_take_others_with_it(self):
        # Place 0 is filled from nothing, and each place fills the next one; turned about, each is emptied into it.
        for many in range(1, 7):
            units = [tuple(int(at == place) for at in range(many)) for place in range(many)]
            moves = tuple(zip([(0,) * many] + units, units))
            for way in (moves, moves[::-1]):
                self.assertEqual(greatest_dry(way, tuple(range(many))), ())
                self.assertEqual(greatest_wet(turned(way), tuple(range(many))), ())
                self.assertEqual(least_dry(way, many), [])
                self.assertEqual(least_wet(turned(way), many), [])
                self.assertEqual(least_dry(way[1:] if way == moves else way[:-1], many), [(0,)])

    def test_a_ring_of_places_is_one_least_set(self):
        for many in range(2, 7):
            units = [tuple(int(at == place) for at in range(many)) for place in range(many)]
            moves = tuple((units[place], units[(place + 1) % many]) for place in range(many))
            self.assertEqual(least_dry(moves, many), [tuple(range(many))])
            self.assertEqual(least_wet(moves, many), [tuple(range(many))])
            self.assertEqual(greatest_dry(moves, tuple(range(1, many))), ())

    def test_sorted_as_tuples_not_by_size(self):
        # Places 0 and 2 fill one another, place 1 stands alone: (0, 2) comes before (1,).
        moves = (((1, 0, 0), (0, 0, 1)), ((0, 0, 1), (1, 0, 0)))
        self.assertEqual(least_dry(moves, 3), [(0, 2), (1,)])
        self.assertEqual(least_wet(moves, 3), [(0, 2), (1,)])
        moves = moves + (((0, 1, 0), (0, 1, 1)),)
        self.assertEqual(least_dry(moves, 3), [(1,)])
        self.assertEqual(least_wet(moves, 3), [(0, 2), (1,)])
        # Places 1 and 2 are dry alone, so no set of one of them and place 0, though dry, is a least one.
        self.assertEqual(least_dry((((0, 1, 1), (1, 0, 0)),), 3), [(1,), (2,)])

    def test_sets_that_share_places(self):
        # What place 0 gets, places 1 and 2 both pay, and both get it back from place 0.
        moves = (((0, 1, 1), (1, 0, 0)), ((1, 0, 0), (0, 1, 1)))
        self.assertEqual(least_dry(moves, 3), [(0, 1), (0, 2)])
        self.assertEqual(least_wet(moves, 3), [(0, 1), (0, 2)])

    def test_without_moves_each_place_is_a_least_set(self):
        for many in range(1, 7):
            self.assertEqual(least_dry((), many), [(place,) for place in range(many)])
            self.assertEqual(least_wet((), many), [(place,) for place in range(many)])
            for places in all_sets(many):
                self.assertEqual(greatest_dry((), places), places)
                self.assertEqual(greatest_wet((), places), places)

    def test_within_no_places(self):
        for moves, many in made_moves(136, 30):
            self.assertEqual(greatest_dry(moves, ()), ())
            self.assertEqual(greatest_wet(moves, ()), ())

    def test_all_sets_of_made_moves(self):
        sizes = {}
        counts = {}
        for moves, many in made_moves(137, 60):
            dry = [places for places in all_sets(many) if dry_break(moves, places) is None]
            wet = [places for places in all_sets(many) if wet_break(moves, places) is None]
            for places in all_sets(many):
                told = greatest_dry(moves, places)
                self.assertEqual(told, plain_greatest(dry, places))
                self.assertEqual(greatest_wet(moves, places), plain_greatest(wet, places))
                kind = "none" if told == () else "all" if told == places else "some"
                sizes[kind] = sizes.get(kind, 0) + 1
            self.assertEqual(least_dry(moves, many), plain_least_sets(dry))
            self.assertEqual(least_wet(moves, many), plain_least_sets(wet))
            for told in (least_dry(moves, many), least_wet(moves, many)):
                kind = (min(len(told), 2), max([len(places) for places in told] + [0]) > 1)
                counts[kind] = counts.get(kind, 0) + 1
        self.assertTrue(len(sizes) == 3 and min(sizes.values()) > 300, sizes)
        self.assertTrue(len(counts) == 5 and min(counts.values()) > 10, counts)

    def test_kinds(self):
        for told in (greatest_dry(MOVES, (0, 1, 2)), greatest_wet(MOVES, ()), greatest_dry((), (0, 2))):
            self.assertIs(type(told), tuple)
        for told in (least_dry(MOVES, 3), least_wet(MOVES, 3), least_dry((), 2), least_wet((((1,), (0,)),), 1)):
            self.assertIs(type(told), list)
            self.assertTrue(all(type(places) is tuple for places in told))


class Turned(unittest.TestCase):
    def test_ordinary_ones(self):
        self.assertEqual(turned((((1, 2), (3, 4)),)), (((3, 4), (1, 2)),))
        self.assertEqual(
            turned(MOVES), (((0, 1, 0), (1, 0, 0)), ((0, 0, 1), (0, 0, 0)), ((0, 0, 0), (0, 0, 1))))
        self.assertEqual(turned(()), ())

    def test_made_ones(self):
        for moves, many in made_moves(138, 60):
            told = turned(moves)
            self.assertIs(type(told), tuple)
            self.assertEqual(told, tuple((put, take) for take, put in moves))
            self.assertTrue(all(type(move) is tuple for move in told))
            self.assertEqual(turned(told), moves)

    def test_a_row_turned_about_leads_back(self):
        dice = random.Random(139)
        for moves, many in made_moves(140, 60):
            row = some_row(dice, moves, 5)
            begin = (TOP * 9,) * many
            behind = walk(begin, moves, row)[0]
            self.assertEqual(walk(behind, turned(moves), row[::-1])[0], begin)


if __name__ == "__main__":
    unittest.main()
