import random
import unittest

from helpers import HUGE, PLAIN, TOP, made_moors, over, plain_falling, plain_flood, walk
from slow import plain_lift, way_of
from tokenmoor.ceilings import level
from tokenmoor.floods import bounded, flood, row_to

# Move 0 carries a counter from place 0 to place 1.
CARRY = (((1, 0), (0, 1)),)
BACK = (((0, 1), (1, 0)),)
MAKE = (((0,), (1,)),)
# The last move would make three counters of two, so there are no weights; but it never can go, so there is no lift.
RING = ((1, 0, 0, 0), (
    ((1, 0, 0, 0), (0, 1, 0, 0)), ((0, 1, 0, 0), (0, 0, 1, 0)), ((0, 0, 1, 0), (0, 0, 0, 1)),
    ((0, 0, 0, 2), (3, 0, 0, 0))))


class Flood(unittest.TestCase):
    def test_ordinary_ones(self):
        self.assertEqual(
            flood(((2, 0), CARRY), 30), ([((2, 0), None, None), ((1, 1), 0, 0), ((0, 2), 1, 0)], True))
        self.assertEqual(
            flood(((1, 0), CARRY + BACK), 30), ([((1, 0), None, None), ((0, 1), 0, 0)], True))
        self.assertEqual(flood(((0,), MAKE), 3), ([((0,), None, None), ((1,), 0, 0), ((2,), 1, 0)], False))

    def test_stands_are_taken_in_the_list_s_order_and_moves_in_theirs(self):
        moves = (((1, 0, 0), (0, 0, 1)), ((1, 0, 0), (0, 1, 0)))
        self.assertEqual(flood(((2, 0, 0), moves), 30), ([
            ((2, 0, 0), None, None), ((1, 0, 1), 0, 0), ((1, 1, 0), 0, 1),
            ((0, 0, 2), 1, 0), ((0, 1, 1), 1, 1), ((0, 2, 0), 2, 1)], True))

    def test_a_stand_come_to_twice_keeps_its_first_parent_and_move(self):
        moves = (((1, 0), (0, 1)), ((2, 0), (1, 1)), ((1, 0), (0, 1)))
        rows, whole = flood(((2, 0), moves), 30)
        self.assertEqual(rows, [((2, 0), None, None), ((1, 1), 0, 0), ((0, 2), 1, 0)])
        self.assertIs(whole, True)

    def test_the_first_row_alone(self):
        for begin, moves in PLAIN:
            rows, whole = flood((begin, moves), 1)
            self.assertEqual(rows, [(begin, None, None)])
            behind = [walk(begin, moves, [number])[0] for number in range(len(moves))]
            self.assertIs(whole, all(stand in (None, begin) for stand in behind))

    def test_no_moves_and_moves_that_put_what_they_take(self):
        for many in range(1, 7):
            for most in (1, 30):
                for number in (0, 1, TOP):
                    same = (((number,) * many, (number,) * many),) * 8
                    for moves in ((), same):
                        told = flood(((TOP,) * many, moves), most)
                        self.assertEqual(told, ([((TOP,) * many, None, None)], True))

    def test_just_as_many_stands_as_the_bound_and_one_more(self):
        for stands in range(1, 31):
            rows, whole = flood(((stands - 1, 0), CARRY), stands)
            self.assertEqual([row[0] for row in rows], [(stands - 1 - at, at) for at in range(stands)])
            self.assertIs(whole, True)
            rows, whole = flood(((stands, 0), CARRY), stands)
            self.assertEqual([row[0] for row in rows], [(stands - at, at) for at in range(stands)])
            self.assertIs(whole, False)

    def test_a_full_list_is_whole_where_only_known_stands_follow(self):
        for stands in range(2, 31):
            moor = ((stands - 1, 0), CARRY + BACK)
            self.assertIs(flood(moor, stands)[1], True)
            self.assertEqual(len(flood(moor, stands - 1)[0]), stands - 1)
            self.assertIs(flood(moor, stands - 1)[1], False)

    def test_all_ends_where_one_more_would_be_put(self):
        # With three stands the list is full when move 1 goes from the first one: move 2 puts nothing more.
        moves = tuple(((1, 0, 0, 0), tuple(int(at == place) for at in range(4))) for place in (1, 2, 3))
        rows, whole = flood(((1, 0, 0, 0), moves), 3)
        self.assertEqual(rows, [((1, 0, 0, 0), None, None), ((0, 1, 0, 0), 0, 0), ((0, 0, 1, 0), 0, 1)])
        self.assertIs(whole, False)

    def test_great_numbers(self):
        self.assertEqual(
            flood(((HUGE, 0), (((TOP, 0), (0, TOP)),)), 2),
            ([((HUGE, 0), None, None), ((HUGE - TOP, TOP), 0, 0)], False))
        self.assertEqual(
            flood(((TOP,), (((TOP,), (0,)),)), 30), ([((TOP,), None, None), ((0,), 0, 0)], True))

    def test_made_ones(self):
        seen = {True: 0, False: 0}
        for moor in made_moors(141, 250):
            for most in (1, 2, 7, 30):
                rows, whole = plain_flood(moor, most)
                self.assertEqual(flood(moor, most), (rows, whole))
                seen[whole] += len(rows) > 1
        self.assertTrue(min(seen.values()) > 150, seen)

    def test_a_whole_flood_has_each_stand_to_which_a_row_leads(self):
        dice = random.Random(142)
        held = 0
        for moor in made_moors(143, 200):
            rows, whole = flood(moor, 30)
            stands = [row[0] for row in rows]
            here = moor[0]
            for each in range(20 if whole and moor[1] else 0):
                behind = walk(here, moor[1], [dice.randrange(len(moor[1]))])[0]
                here = here if behind is None else behind
                self.assertIn(here, stands)
                held += here != moor[0]
        self.assertTrue(held > 300)

    def test_kinds(self):
        told = flood(((2, 0), CARRY), 30)
        self.assertIs(type(told), tuple)
        self.assertEqual(len(told), 2)
        self.assertIs(type(told[0]), list)
        self.assertTrue(all(type(row) is tuple and type(row[0]) is tuple for row in told[0]))
        self.assertIs(told[1], True)


class RowTo(unittest.TestCase):
    def test_the_first_of_the_rows(self):
        self.assertEqual(row_to([((2, 0), None, None)], 0), [])
        for moor in PLAIN:
            self.assertEqual(row_to(flood(moor, 30)[0], 0), [])

    def test_ordinary_ones(self):
        rows = flood(((2, 0, 0), (((1, 0, 0), (0, 0, 1)), ((1, 0, 0), (0, 1, 0)))), 30)[0]
        self.assertEqual([row_to(rows, number) for number in range(6)], [[], [0], [1], [0, 0], [0, 1], [1, 1]])

    def test_a_long_one(self):
        rows = flood(((29, 0), CARRY), 30)[0]
        self.assertEqual(row_to(rows, 29), [0] * 29)

    def test_each_row_of_made_floods(self):
        held = 0
        for moor in made_moors(144, 150):
            rows = flood(moor, 30)[0]
            for number in range(len(rows)):
                told = row_to(rows, number)
                self.assertIs(type(told), list)
                self.assertEqual(told, way_of(rows, number)[1])
                self.assertEqual(walk(moor[0], moor[1], told), (rows[number][0], len(told)))
                held += len(told) > 1
        self.assertTrue(held > 500)


class Bounded(unittest.TestCase):
    def test_lifts(self):
        self.assertEqual(bounded(((0,), MAKE), 30), ("lift", [], [0]))
        self.assertEqual(bounded(((2, 0), CARRY + (((0, 1), (2, 0)),)), 30), ("lift", [], [0, 1]))
        self.assertEqual(bounded(((1, 0), CARRY + (((0, 1), (0, 2)),)), 30), ("lift", [0], [1]))

    def test_a_lift_from_the_nearest_stand_on_the_way(self):
        # The third stand covers both before it; what may go again is what goes from the second one.
        moor = ((0, 1), (((0, 1), (1, 0)), ((1, 0), (2, 1))))
        self.assertEqual(bounded(moor, 30), ("lift", [0], [1]))
        # Here the second stand isn't covered, and the row goes again from the first one.
        moor = ((0, 1), (((0, 1), (3, 0)), ((1, 0), (0, 1))))
        self.assertEqual(bounded(moor, 30), ("lift", [], [0, 1]))

    def test_the_first_stand_of_the_flood_that_lifts(self):
        # Both moves lift from the beginning; the first one's stand comes first, whatever else lies before it.
        moves = (((0, 0), (0, 1)), ((0, 0), (1, 0)))
        self.assertEqual(bounded(((0, 0), moves), 30), ("lift", [], [0]))
        moves = (((1, 0, 0), (0, 1, 0)), ((1, 0, 0), (1, 0, 1)))
        self.assertEqual(bounded(((1, 0, 0), moves), 30), ("lift", [], [1]))

    def test_only_stands_on_the_way_count(self):
        # The last stand covers the one beside its way, not one on it.
        moves = (((1, 0, 0), (0, 1, 0)), ((1, 0, 0), (0, 0, 1)), ((0, 0, 1), (0, 2, 0)))
        self.assertEqual(
            bounded(((1, 0, 0), moves), 30), ("all", [(1, 0, 0), (0, 1, 0), (0, 0, 1), (0, 2, 0)]))

    def test_a_lift_within_a_flood_that_isn_t_whole_and_none_where_it_is_cut_before(self):
        moor = ((1, 0), CARRY + (((0, 1), (0, 2)),))
        self.assertEqual(bounded(moor, 3), ("lift", [0], [1]))
        self.assertEqual(bounded(moor, 2), ("open",))
        self.assertEqual(bounded(moor, 1), ("open",))
        self.assertEqual(bounded(((0,), MAKE), 1), ("open",))
        self.assertEqual(bounded(((0,), MAKE), 2), ("lift", [], [0]))

    def test_a_stand_covered_by_its_like_alone_is_no_lift(self):
        self.assertEqual(bounded(((1,), (((1,), (1,)),)), 30), ("all", [(1,)]))
        self.assertEqual(bounded(((1,), (((1,), (1,)),)), 1), ("all", [(1,)]))
        self.assertEqual(bounded(((1, 0), CARRY + BACK), 30), ("all", [(1, 0), (0, 1)]))
        self.assertEqual(bounded(((1, 0), CARRY + BACK), 2), ("all", [(1, 0), (0, 1)]))

    def test_all_stands_come_before_weights(self):
        for stands in range(1, 31):
            moor = ((stands - 1, 0), CARRY)
            self.assertEqual(bounded(moor, stands), ("all", [(stands - 1 - at, at) for at in range(stands)]))
            if stands > 1:
                told = bounded(moor, stands - 1)
                self.assertEqual(told[0], "weights")
                self.assertTrue(min(told[1]) >= 1 and plain_falling(CARRY, told[1]))

    def test_all_stands_where_there_are_no_such_weights(self):
        self.assertEqual(bounded(((0, 0), CARRY + (((0, 1), (2, 0)),)), 1), ("all", [(0, 0)]))
        self.assertEqual(bounded(RING, 4), ("all", [tuple(int(a == b) for a in range(4)) for b in range(4)]))

    def test_open_where_the_bound_of_work_is_passed(self):
        for most in (1, 2, 3):
            self.assertEqual(bounded(RING, most), ("open",))

    def test_weights_with_great_numbers(self):
        told = bounded(((HUGE, 0), (((1, 0), (0, TOP)),)), 30)
        self.assertEqual(told[0], "weights")
        self.assertTrue(told[1][0] >= TOP * told[1][1] >= TOP)

    def test_made_ones(self):
        seen = {}
        for moor in made_moors(145, 300):
            for most in (1, 2, 3, 10, 30):
                rows, whole = plain_flood(moor, most)
                lift = plain_lift(rows)
                told = bounded(moor, most)
                if lift is not None:
                    self.assertEqual(told, ("lift",) + lift)
                    self.goes_on(moor, lift[0], lift[1])
                elif whole:
                    self.assertEqual(told, ("all", [row[0] for row in rows]))
                elif level(moor[1], len(moor[0]))[0] == "weights":
                    self.assertEqual((told[0], len(told)), ("weights", 2))
                    self.assertTrue(min(told[1]) >= 1 and plain_falling(moor[1], told[1]))
                else:
                    self.assertEqual(told, ("open",))
                seen[told[0]] = seen.get(told[0], 0) + 1
        self.assertTrue(len(seen) == 4 and min(seen.values()) > 50, seen)

    def goes_on(self, moor, row, again):
        self.assertTrue(again)
        before = walk(moor[0], moor[1], row)[0]
        for times in range(1, 4):
            behind = walk(moor[0], moor[1], row + again * times)[0]
            self.assertTrue(over(behind, before) and behind != before)
            before = behind

    def test_no_yes_or_no_is_wrong(self):
        # Of each moor the answers by several bounds are one another's like: bounded or not, or open.
        for moor in made_moors(146, 150):
            told = {bounded(moor, most)[0] for most in (1, 2, 5, 12, 30)}
            self.assertFalse("lift" in told and ("all" in told or "weights" in told), moor)

    def test_kinds(self):
        told = bounded(((1, 0), CARRY + (((0, 1), (0, 2)),)), 30)
        self.assertEqual([type(part) for part in told], [str, list, list])
        told = bounded(((1, 0), CARRY), 30)
        self.assertEqual([type(part) for part in told], [str, list])
        told = bounded(((2, 0), CARRY), 1)
        self.assertEqual([type(part) for part in told], [str, tuple])
        for told in (bounded(RING, 1), bounded(RING, 30)):
            self.assertIs(type(told), tuple)


if __name__ == "__main__":
    unittest.main()
