import random
import unittest

from helpers import (
    HUGE, PLAIN, TOP, flood, lifts, made_moors, over, plain_sources, single_moors, some_stand, walk, wander)
from slow import is_stuck, plain_again, plain_end_of, plain_kept
from tokenmoor.backs import enough, never
from tokenmoor.ends import again, end_of, is_end, kept
from tokenmoor.sets import greatest_wet, least_dry

# A counter is carried from place 0 to place 1 and back; or two come back for it; or it is lost at place 1.
CARRY = (((1, 0), (0, 1)),)
BACK = (((0, 1), (1, 0)),)
DOUBLE = (((0, 1), (2, 0)),)
LOSE = (((0, 1), (0, 0)),)
# Each counter at place 0 stays there and makes one at place 1.
COPY = (((1, 0), (1, 1)),)
FREE = (((0, 0), (1, 0)),)


def to_and_fro(counters):
    """A moor of one stand more than counters, none of them an end where there is a counter."""
    return ((counters, 0), CARRY + BACK)


def stands_by(counters):
    return [(counters - at, at) for at in range(counters + 1)]


class IsEnd(unittest.TestCase):
    def test_ordinary_ones(self):
        moor = ((2, 0), CARRY)
        self.assertIs(is_end(moor, (2, 0)), False)
        self.assertIs(is_end(moor, (1, 1)), False)
        self.assertIs(is_end(moor, (0, 2)), True)

    def test_the_stand_counts_and_not_the_beginning(self):
        self.assertIs(is_end(((0, 0), CARRY), (1, 0)), False)
        self.assertIs(is_end(((1, 0), CARRY), (0, 0)), True)

    def test_no_moves(self):
        for begin, moves in PLAIN:
            self.assertIs(is_end((begin, ()), begin), True)

    def test_a_move_that_takes_nothing_at_any_number(self):
        for at in range(8):
            moves = CARRY * at + FREE + CARRY * (7 - at)
            self.assertIs(is_end(((0, 0), moves), (0, 0)), False)

    def test_one_move_that_can_go_is_enough(self):
        for at in range(8):
            moves = CARRY * at + BACK + CARRY * (7 - at)
            self.assertIs(is_end(((0, 0), moves), (0, 1)), False)
            self.assertIs(is_end(((0, 0), moves), (0, 0)), True)

    def test_great_counts(self):
        moor = ((0,), (((TOP,), (0,)),))
        self.assertIs(is_end(moor, (TOP - 1,)), True)
        self.assertIs(is_end(moor, (TOP,)), False)
        self.assertIs(is_end(moor, (HUGE,)), False)

    def test_made_ones(self):
        dice = random.Random(151)
        seen = {True: 0, False: 0}
        for moor in made_moors(152, 200):
            for each in range(3):
                stand = some_stand(dice, len(moor[0]), dice.choice((1, 2, TOP)))
                told = is_end(moor, stand)
                self.assertIs(told, is_stuck(moor, stand))
                seen[told] += 1
        self.assertTrue(min(seen.values()) > 100, seen)


class Kept(unittest.TestCase):
    def test_ordinary_ones(self):
        self.assertEqual(kept(to_and_fro(1)), [((0, 1), (0, 1))])
        self.assertEqual(kept(((0, 1), CARRY + DOUBLE)), [((0, 1), (0, 1))])

    def test_two_rings_each_with_its_own_counter(self):
        moves = (
            ((1, 0, 0, 0), (0, 1, 0, 0)), ((0, 1, 0, 0), (1, 0, 0, 0)),
            ((0, 0, 1, 0), (0, 0, 0, 1)), ((0, 0, 0, 1), (0, 0, 1, 0)))
        self.assertEqual(kept(((1, 0, 0, 1), moves)), [((0, 1), (0, 1)), ((2, 3), (2, 3))])
        # The moor is kept only where each of the sets has a counter.
        self.assertIsNone(kept(((1, 1, 0, 0), moves)))
        self.assertIsNone(kept(((0, 0, 1, 1), moves)))

    def test_no_moves(self):
        for begin, moves in PLAIN:
            self.assertIsNone(kept((begin, ())))
        self.assertIsNone(kept(((TOP,) * 6, ())))

    def test_a_move_that_takes_two_counters_from_a_place(self):
        for many in (1, 2, 6):
            for place in range(many):
                for at in (0, 3, 7):
                    for number in (1, 2, TOP):
                        take = (1,) * place + (number,) + (1,) * (many - place - 1)
                        other = ((1,) * many, (1,) * many)
                        moves = (other,) * at + ((take, (1,) * many),) + (other,) * (7 - at)
                        singles = [((one,), (one,)) for one in range(many)]
                        self.assertEqual(kept(((TOP,) * many, moves)), singles if number == 1 else None)

    def test_a_move_may_put_as_many_as_it_likes(self):
        self.assertEqual(kept(((1, 0), (((1, 0), (0, TOP)), ((0, 1), (TOP, 2))))), [((0, 1), (0, 1))])

    def test_a_greatest_wet_set_without_a_counter(self):
        self.assertIsNone(kept(to_and_fro(0)))
        self.assertEqual(least_dry(COPY + BACK + LOSE, 2), [(0, 1)])
        self.assertEqual(greatest_wet(COPY + BACK + LOSE, (0, 1)), (0,))
        self.assertEqual(kept(((1, 0), COPY + BACK + LOSE)), [((0, 1), (0,))])
        # The least dry set has counters still, but not within its greatest wet set.
        self.assertIsNone(kept(((0, TOP), COPY + BACK + LOSE)))
        self.assertEqual(end_of(((0, 1), COPY + BACK + LOSE), 30), ("end", [2]))

    def test_a_greatest_wet_set_of_no_places(self):
        self.assertEqual(least_dry(CARRY, 2), [(0,)])
        self.assertEqual(greatest_wet(CARRY, (0,)), ())
        for begin in ((1, 0), (5, 5), (TOP, 0)):
            self.assertIsNone(kept((begin, CARRY)))

    def test_no_least_dry_set_at_all(self):
        self.assertEqual(kept(((0, 0), (((0, 0), (1, 1)),))), [])
        self.assertEqual(kept(((0,), (((0,), (TOP,)), ((1,), (0,))))), [])
        self.assertIsNone(kept(((0,), (((0,), (TOP,)), ((2,), (0,))))))

    def test_a_place_that_no_move_touches(self):
        # By itself it is a dry set and a wet one: it must have a counter.
        moves = (((1, 0), (1, 0)),)
        self.assertEqual(kept(((1, 3), moves)), [((0,), (0,)), ((1,), (1,))])
        self.assertIsNone(kept(((1, 0), moves)))

    def test_only_the_beginning_s_counters_count(self):
        self.assertEqual(kept(((0, HUGE), CARRY + BACK)), [((0, 1), (0, 1))])
        self.assertIsNone(kept(((0, 0), CARRY + BACK)))

    def test_made_ones_by_all_sets(self):
        seen = {"none": 0, "kept": 0, "smaller": 0, "several": 0}
        for moor in made_moors(153, 100) + single_moors(154, 700):
            told = kept(moor)
            self.assertEqual(told, plain_kept(moor))
            if told is None:
                seen["none"] += 1
                continue
            seen["kept"] += 1
            seen["smaller"] += any(dry != wet for dry, wet in told)
            seen["several"] += len(told) > 1
        self.assertTrue(min(seen.values()) > 10, seen)

    def test_no_row_leads_to_an_end(self):
        dice = random.Random(155)
        held = 0
        for begin, moves in single_moors(156, 400):
            if kept((begin, moves)) is None:
                continue
            stands = wander(dice, begin, moves, 60)[1] + flood(begin, moves, 60)[0]
            self.assertFalse(any(is_stuck((begin, moves), stand) for stand in stands))
            held += len(stands)
        self.assertTrue(held > 1000)

    def test_kinds(self):
        told = kept(((1, 0), CARRY + BACK))
        self.assertIs(type(told), list)
        self.assertEqual([type(part) for part in told[0]], [tuple, tuple])
        self.assertIs(type(told[0]), tuple)
        self.assertIs(type(kept(((0, 0), (((0, 0), (1, 1)),)))), list)


class EndOf(unittest.TestCase):
    def test_a_beginning_that_is_an_end(self):
        for most in (1, 30):
            self.assertEqual(end_of(((0, 3), CARRY), most), ("end", []))
            self.assertEqual(end_of(((0,), (((1,), (0,)),) * 8), most), ("end", []))

    def test_no_moves(self):
        for most in (1, 30):
            for begin, moves in PLAIN:
                self.assertEqual(end_of((begin, ()), most), ("end", []))

    def test_a_move_that_takes_nothing_at_any_number(self):
        for at in range(8):
            for most in (1, 30):
                moves = CARRY * at + FREE + CARRY * (7 - at)
                self.assertEqual(end_of(((0, 0), moves), most), ("free", at))
        self.assertEqual(end_of(((0, 0), CARRY + FREE + FREE), 30), ("free", 1))

    def test_a_free_move_is_told_before_all_stands(self):
        # It puts nothing either, so the flood is whole.
        self.assertEqual(end_of(((0,), (((0,), (0,)),)), 1), ("free", 0))
        self.assertEqual(end_of(((1, 0), CARRY + (((0, 0), (0, 0)),)), 30), ("free", 1))

    def test_the_row_to_the_first_end_in_the_flood(self):
        # Both moves lead to ends, the first one's comes first.
        moves = (((1, 0, 0), (0, 1, 0)), ((1, 0, 0), (0, 0, 1)))
        self.assertEqual(end_of(((1, 0, 0), moves), 30), ("end", [0]))
        # Now move 2 goes on from where the first one leads.
        moves += (((0, 1, 0), (0, 1, 0)),)
        self.assertEqual(end_of(((1, 0, 0), moves), 30), ("end", [1]))
        moves += (((0, 0, 1), (0, 2, 0)),)
        self.assertEqual(end_of(((1, 0, 0), moves), 30), ("none", [(1, 0, 0), (0, 1, 0), (0, 0, 1), (0, 2, 0)]))

    def test_an_end_just_within_the_bound_and_just_beyond(self):
        for counters in range(1, 30):
            moor = ((counters, 0), CARRY)
            self.assertEqual(end_of(moor, counters + 1), ("end", [0] * counters))
            self.assertEqual(end_of(moor, counters), ("open",))

    def test_an_end_in_a_flood_that_isn_t_whole(self):
        moor = ((1, 0), CARRY + DOUBLE + LOSE)
        self.assertEqual(end_of(moor, 30), ("end", [0, 2]))
        self.assertEqual(end_of(moor, 4), ("end", [0, 2]))
        self.assertEqual(end_of(moor, 3), ("open",))

    def test_just_as_many_stands_as_the_bound_and_one_more(self):
        for counters in range(1, 30):
            self.assertEqual(end_of(to_and_fro(counters), counters + 1), ("none", stands_by(counters)))
            self.assertEqual(end_of(to_and_fro(counters), 30), ("none", stands_by(counters)))
            self.assertEqual(end_of(to_and_fro(counters), counters), ("kept", [((0, 1), (0, 1))]))
        self.assertEqual(end_of(to_and_fro(30), 30), ("kept", [((0, 1), (0, 1))]))

    def test_open_where_the_moor_is_not_kept(self):
        # A move takes two counters from a place.
        moor = ((2, 0), (((2, 0), (0, 1)), ((0, 1), (3, 0))))
        self.assertEqual(end_of(moor, 30)[0], "open")
        # A least dry set's greatest wet set has no places.
        self.assertEqual(end_of(((TOP, 0), CARRY), 30), ("open",))
        # It has no counter at the beginning.
        moor = ((1, 0, 0), (((1, 0, 0), (2, 0, 0)), ((0, 1, 1), (0, 1, 0)), ((0, 1, 0), (0, 0, 1))))
        self.assertEqual(end_of(moor, 30), ("open",))

    def test_great_counts(self):
        self.assertEqual(end_of(((TOP,), (((TOP,), (0,)),)), 30), ("end", [0]))
        self.assertEqual(end_of(((2 * TOP - 1,), (((TOP,), (0,)),)), 2), ("end", [0]))
        self.assertEqual(end_of(((HUGE, 0), CARRY + BACK), 30), ("kept", [((0, 1), (0, 1))]))

    def test_made_ones(self):
        seen = {}
        for moor in made_moors(157, 150) + single_moors(158, 250):
            for most in (1, 2, 3, 10, 30):
                told = end_of(moor, most)
                self.assertEqual(told, plain_end_of(moor, most))
                if told[0] == "end":
                    behind, went = walk(moor[0], moor[1], told[1])
                    self.assertTrue(behind is not None and is_stuck(moor, behind))
                seen[told[0]] = seen.get(told[0], 0) + 1
        self.assertTrue(len(seen) == 5 and min(seen.values()) > 50, seen)

    def test_no_yes_or_no_is_wrong(self):
        held = 0
        for moor in made_moors(159, 80) + single_moors(160, 150):
            stands, whole = flood(moor[0], moor[1], 120)
            ends = any(is_stuck(moor, stand) for stand in stands)
            for most in (1, 2, 5, 12, 30):
                word = end_of(moor, most)[0]
                if ends:
                    self.assertIn(word, ("end", "open"))
                elif whole:
                    self.assertNotEqual(word, "end")
                held += word != "open"
        self.assertTrue(held > 500)

    def test_kinds(self):
        told = end_of(((1, 0), CARRY), 30)
        self.assertEqual([type(told)] + [type(part) for part in told], [tuple, str, list])
        told = end_of(to_and_fro(1), 30)
        self.assertEqual([type(told)] + [type(part) for part in told], [tuple, str, list])
        told = end_of(to_and_fro(3), 2)
        self.assertEqual([type(told)] + [type(part) for part in told], [tuple, str, list])
        told = end_of(((0, 0), FREE), 2)
        self.assertEqual([type(told)] + [type(part) for part in told], [tuple, str, int])
        self.assertIs(type(end_of(((TOP, 0), CARRY), 2)), tuple)


class Again(unittest.TestCase):
    def test_a_move_that_dies(self):
        self.assertEqual(again(((2, 0), CARRY), 0, 30), ("dies", [0, 0], [(1, 0)]))
        self.assertEqual(again(((1, 0), CARRY + BACK + LOSE), 0, 30), ("dies", [0, 2], [(0, 1), (1, 0)]))

    def test_a_basis_that_doesn_t_lift_the_beginning(self):
        for most in (1, 30):
            self.assertEqual(again(((0, 7), CARRY), 0, most), ("dies", [], [(1, 0)]))
            self.assertEqual(again(((0,), (((1,), (0,)),) * 8), 7, most), ("dies", [], [(1,)]))

    def test_the_row_to_the_first_stand_in_the_flood_that_isn_t_lifted(self):
        moves = (((1, 0, 0), (0, 1, 0)), ((1, 0, 0), (0, 0, 1)), ((0, 1, 0), (1, 0, 0)))
        self.assertEqual(again(((1, 0, 0), moves), 0, 30), ("dies", [1], [(0, 1, 0), (1, 0, 0)]))
        self.assertEqual(again(((1, 0, 0), moves), 1, 30), ("dies", [1], [(0, 1, 0), (1, 0, 0)]))
        self.assertEqual(again(((1, 0, 0), moves), 2, 30), ("dies", [1], [(0, 1, 0), (1, 0, 0)]))

    def test_just_as_many_stands_as_the_bound_and_one_more(self):
        for counters in range(1, 30):
            told = again(to_and_fro(counters), 0, counters + 1)
            self.assertEqual(told, ("lives", stands_by(counters)))
            if counters > 1:
                told = again(to_and_fro(counters), 1, counters)
                self.assertEqual(told, ("always", [(0, 1), (1, 0)]))

    def test_always_just_holding_and_just_not(self):
        self.assertEqual(again(((5, 0), CARRY + BACK), 0, 2), ("always", [(0, 1), (1, 0)]))
        self.assertEqual(again(((5, 0), CARRY + DOUBLE), 0, 30), ("always", [(0, 1), (1, 0)]))
        # With a move that loses a counter the last one may be lost, whatever lies within the bound.
        self.assertEqual(again(((5, 0), CARRY + BACK + LOSE), 0, 2), ("open",))
        self.assertEqual(again(((5, 0), CARRY + DOUBLE + LOSE), 0, 8), ("open",))
        self.assertEqual(again(((1, 0), CARRY + DOUBLE + LOSE), 0, 30)[:2], ("dies", [0, 2]))
        # It loses one of two, and not the last.
        two = (((0, 2), (0, 1)),)
        self.assertEqual(again(((5, 0), CARRY + BACK + two), 0, 2), ("always", [(0, 1), (1, 0)]))

    def test_always_of_each_stand_of_the_basis_with_each_move(self):
        # The basis is (1, 0) alone, which isn't enough for move 1; from the least stand over both it leads out, or not.
        self.assertEqual(again(((2, 0), COPY + (((1, 1), (0, 0)),)), 0, 3), ("open",))
        self.assertEqual(again(((2, 0), COPY + (((1, 1), (1, 0)),)), 0, 3), ("always", [(1, 0)]))
        # Of the basis (0, 1) and (1, 0) only one leads out by the last move, whichever it is.
        self.assertEqual(again(((5, 0), CARRY + BACK + LOSE), 1, 3), ("open",))
        self.assertEqual(again(((5, 0), CARRY + BACK + (((1, 0), (0, 0)),)), 1, 3), ("open",))

    def test_open_where_enough_is_open_whatever_else_would_hold(self):
        # The flood is whole, and the move never goes, but the second ring has two stands.
        self.assertEqual(again(((0, 0), CARRY + BACK), 0, 1), ("open",))
        self.assertEqual(again(((0, 0), CARRY + BACK), 0, 2), ("dies", [], [(0, 1), (1, 0)]))
        self.assertEqual(enough(CARRY + BACK, (1, 0), 1), ("open", 1))

    def test_a_move_that_takes_nothing(self):
        self.assertEqual(again(((0, 0), CARRY + FREE), 1, 30), ("always", [(0, 0)]))
        self.assertEqual(again(((0,), (((0,), (0,)),)), 0, 1), ("lives", [(0,)]))

    def test_great_counts(self):
        moor = ((HUGE,), (((TOP,), (TOP,)), ((1,), (2,))))
        self.assertEqual(again(moor, 0, 30), ("open",))
        self.assertEqual(again(((HUGE,), (((TOP,), (TOP - 1,)),)), 0, 30), ("open",))
        self.assertEqual(again(((TOP,), (((TOP,), (TOP - 1,)),)), 0, 30), ("dies", [0], [(TOP,)]))
        self.assertEqual(again(((HUGE,), (((TOP - 1,), (TOP,)),)), 0, 30), ("always", [(TOP - 1,)]))

    def test_made_ones(self):
        seen = {}
        for moor in made_moors(161, 100) + single_moors(162, 150):
            for number in range(len(moor[1])):
                for most in (1, 2, 5, 30):
                    told = again(moor, number, most)
                    self.assertEqual(told, plain_again(moor, number, most))
                    seen[told[0]] = seen.get(told[0], 0) + 1
        self.assertTrue(len(seen) == 4 and min(seen.values()) > 100, seen)

    def test_a_told_basis_held_against_its_stands_and_each_move(self):
        held = {"dies": 0, "always": 0}
        for begin, moves in made_moors(163, 60) + single_moors(164, 100):
            for number, move in enumerate(moves):
                told = again((begin, moves), number, 30)
                if told[0] not in held:
                    continue
                basis = told[-1]
                self.assertTrue(lifts(basis, move[0]))
                self.assertTrue(all(lifts(basis, stand) for stand in plain_sources(moves, basis)))
                self.assertFalse(any(over(one, other) for one in basis for other in basis if one != other))
                stay = all(
                    lifts(basis, walk(tuple(max(pair) for pair in zip(low, one[0])), [one], [0])[0])
                    for low in basis for one in moves)
                if told[0] == "dies":
                    self.assertFalse(lifts(basis, walk(begin, moves, told[1])[0]))
                else:
                    self.assertTrue(stay and lifts(basis, begin))
                held[told[0]] += 1
        self.assertTrue(min(held.values()) > 50, held)

    def test_a_dead_move_never_goes_again_and_a_living_one_does(self):
        dice = random.Random(165)
        held = {}
        small = [to_and_fro(counters) for counters in range(1, 19)]
        for begin, moves in made_moors(166, 60) + single_moors(167, 100) + small:
            for number in range(len(moves)):
                told = again((begin, moves), number, 20)
                if told[0] == "open":
                    continue
                here = walk(begin, moves, told[1])[0] if told[0] == "dies" else begin
                here = wander(dice, here, moves, 12)[1][-1]
                self.assertEqual(self.goes_later(here, moves, number), told[0] != "dies", (begin, moves, number))
                held[told[0]] = held.get(told[0], 0) + 1
        self.assertTrue(len(held) == 3 and min(held.values()) > 20, held)

    def goes_later(self, here, moves, number):
        """Whether the move can go from one of the first stands that rows lead to from here."""
        stands = flood(here, moves, 400)[0]
        return any(walk(stand, moves, [number])[0] is not None for stand in stands)

    def test_what_never_tells_agrees(self):
        # A move that never can go is lost from the beginning on.
        held = 0
        for moor in made_moors(168, 100) + single_moors(169, 100):
            for number, lost in enumerate(never(moor, 30)):
                told = again(moor, number, 30)
                if lost is True:
                    self.assertEqual(told[:2], ("dies", []))
                    held += 1
                elif lost is False and told[0] == "dies":
                    self.assertNotEqual(told[1], [])
        self.assertTrue(held > 100)

    def test_no_yes_or_no_is_wrong(self):
        for moor in made_moors(170, 60) + single_moors(171, 100):
            for number in range(len(moor[1])):
                words = {again(moor, number, most)[0] for most in (1, 2, 5, 12, 30)}
                self.assertFalse("dies" in words and words & {"lives", "always"}, moor)

    def test_kinds(self):
        told = again(((2, 0), CARRY), 0, 30)
        self.assertEqual([type(told)] + [type(part) for part in told], [tuple, str, list, list])
        for told in (again(to_and_fro(1), 0, 30), again(to_and_fro(5), 0, 2)):
            self.assertEqual([type(told)] + [type(part) for part in told], [tuple, str, list])
            self.assertTrue(all(type(stand) is tuple for stand in told[1]))
        self.assertIs(type(again(to_and_fro(5), 0, 1)), tuple)


if __name__ == "__main__":
    unittest.main()
