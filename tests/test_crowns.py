import itertools
import random
import unittest

from helpers import (
    HUGE, PLAIN, TOP, cap_under, cap_walk, flood, made_moors, plain_growth, plain_raised, plain_tops)
from tokenmoor.crowns import cap_able, cap_after, crown, growth, is_crown, raised, tops, under
from tokenmoor.errors import MoorError, NoMoor, NoName, NoRow, NoText, Stuck

NUMBERS = (None, 0, 1, 2)
# Move 0 carries a counter from the first place to the second.
CARRY = (((1, 0), (0, 1)),)
MAKE = (((0,), (1,)),)


def all_caps(many):
    return list(itertools.product(NUMBERS, repeat=many))


def some_cap(dice, many):
    return tuple(dice.choice((None, 0, 0, 1, 2, 3, TOP, HUGE)) for place in range(many))


def close_cap(dice, cap):
    """A cap that is often under the given one, or over it."""
    return tuple(dice.choice((number, number, number, None, 0, 2)) for number in cap)


class Under(unittest.TestCase):
    def test_all_small_caps(self):
        for many in (1, 2, 3):
            for cap in all_caps(many):
                for other in all_caps(many):
                    self.assertIs(under(cap, other), cap_under(cap, other))

    def test_one_place_told_one_by_one(self):
        self.assertIs(under((None,), (None,)), True)
        self.assertIs(under((HUGE,), (None,)), True)
        self.assertIs(under((None,), (HUGE,)), False)
        self.assertIs(under((2,), (2,)), True)
        self.assertIs(under((2,), (3,)), True)
        self.assertIs(under((3,), (2,)), False)
        self.assertIs(under((0,), (0,)), True)

    def test_caps_of_none_alone_and_without_none(self):
        for many in range(1, 7):
            all_none = (None,) * many
            for stand in ((0,) * many, (HUGE,) * many):
                self.assertIs(under(stand, all_none), True)
                self.assertIs(under(all_none, stand), False)
            self.assertIs(under(all_none, all_none), True)

    def test_six_places_one_of_them_more(self):
        cap = (5, None, 5, None, 5, 5)
        self.assertIs(under(cap, cap), True)
        for place in (0, 2, 4, 5):
            for number in (6, None):
                more = tuple(number if p == place else 0 for p in range(6))
                self.assertIs(under(more, cap), False)

    def test_made_caps(self):
        dice = random.Random(51)
        seen = {True: 0, False: 0}
        for each in range(1000):
            cap = some_cap(dice, dice.randint(1, 6))
            other = close_cap(dice, cap)
            self.assertIs(under(cap, other), cap_under(cap, other))
            seen[cap_under(cap, other)] += 1
        self.assertTrue(min(seen.values()) > 100)


class MovesFromCaps(unittest.TestCase):
    def stuck(self, cap, move):
        with self.assertRaises(Stuck) as caught:
            cap_after(cap, move)
        self.assertEqual(caught.exception.at, 0)
        self.assertIs(type(caught.exception.at), int)
        self.assertIsInstance(caught.exception, MoorError)
        self.assertNotIsInstance(caught.exception, (NoMoor, NoText, NoName, NoRow))

    def test_ordinary_ones(self):
        move = ((2, 0, 1), (0, 3, 1))
        self.assertIs(cap_able((2, 0, 1), move), True)
        self.assertEqual(cap_after((2, 0, 1), move), (0, 3, 1))
        self.assertEqual(cap_after((None, 1, 4), move), (None, 4, 4))
        self.assertEqual(cap_after((5, None, None), move), (3, None, None))

    def test_what_can_not_go_is_refused(self):
        move = ((2, 0, 1), (9, 3, 9))
        for cap in ((1, None, None), (None, None, 0), (0, 0, 0), (1, HUGE, 1)):
            self.assertIs(cap_able(cap, move), False)
            self.stuck(cap, move)

    def test_none_alone_can_always_go(self):
        for begin, moves in made_moors(52, 30):
            for move in moves:
                cap = (None,) * len(begin)
                self.assertIs(cap_able(cap, move), True)
                self.assertEqual(cap_after(cap, move), cap)

    def test_all_small_ones(self):
        for take in itertools.product(range(3), repeat=2):
            for put in itertools.product(range(3), repeat=2):
                for cap in all_caps(2):
                    behind = cap_walk(cap, (take, put))
                    self.assertIs(cap_able(cap, (take, put)), behind is not None)
                    if behind is None:
                        self.stuck(cap, (take, put))
                    else:
                        self.assertEqual(cap_after(cap, (take, put)), behind)

    def test_great_numbers(self):
        move = ((TOP, 1), (0, TOP))
        self.assertEqual(cap_after((HUGE, None), move), (HUGE - TOP, None))
        self.assertEqual(cap_after((TOP, 1), move), (0, TOP))
        self.stuck((TOP - 1, None), move)

    def test_moves_that_take_nothing_or_put_nothing(self):
        self.assertEqual(cap_after((0, None), ((0, 0), (2, 3))), (2, None))
        self.assertEqual(cap_after((2, None), ((2, 3), (0, 0))), (0, None))
        self.assertEqual(cap_after((0, 0), ((0, 0), (0, 0))), (0, 0))

    def test_kinds(self):
        self.assertIs(type(cap_after((1, None), ((1, 0), (0, 1)))), tuple)


class Raised(unittest.TestCase):
    def test_ordinary_ones(self):
        self.assertEqual(raised((3, 1), (2, 1)), (None, 1))
        self.assertEqual(raised((3, 2), (2, 1)), (None, None))
        self.assertEqual(raised((3, 0), (2, 1)), (3, 0))
        self.assertEqual(raised((None, 2), (5, 1)), (None, None))
        self.assertEqual(raised((None, 2), (None, 2)), (None, 2))
        self.assertEqual(raised((5, 2), (None, 1)), (5, 2))

    def test_a_none_above_a_number_makes_it_unlike_and_stays(self):
        self.assertEqual(raised((None, 2), (5, 2)), (None, 2))
        self.assertEqual(raised((None,), (5,)), (None,))

    def test_a_cap_and_its_like(self):
        for many in (1, 2, 3):
            for cap in all_caps(many):
                self.assertEqual(raised(cap, cap), cap)
        self.assertEqual(raised((HUGE,) * 6, (HUGE,) * 6), (HUGE,) * 6)

    def test_all_small_ones(self):
        for many in (1, 2, 3):
            for cap in all_caps(many):
                for elder in all_caps(many):
                    self.assertEqual(raised(cap, elder), plain_raised(cap, elder))

    def test_made_ones(self):
        dice = random.Random(53)
        seen = 0
        for each in range(1000):
            cap = some_cap(dice, dice.randint(1, 6))
            elder = close_cap(dice, cap)
            self.assertEqual(raised(cap, elder), plain_raised(cap, elder))
            seen += raised(cap, elder) != cap
        self.assertTrue(seen > 50)

    def test_kinds(self):
        self.assertIs(type(raised((3, 1), (2, 1))), tuple)
        self.assertIs(type(raised((3, 1), (4, 1))), tuple)


class Tops(unittest.TestCase):
    def test_ordinary_ones(self):
        self.assertEqual(tops([(2, 1), (0, 3), (2, 0), (1, 1)]), [(0, 3), (2, 1)])
        self.assertEqual(tops([(None, 0), (5, 0), (0, None), (0, 1)]), [(0, None), (None, 0)])

    def test_none_sorts_behind_each_number(self):
        caps = [(None, 0, 3), (0, None, 3), (HUGE, 0, 3), (None, 0, 2), (0, 0, None), (1, HUGE, 0), (1, 2, 3)]
        told = [(0, 0, None), (0, None, 3), (1, 2, 3), (1, HUGE, 0), (None, 0, 3)]
        self.assertEqual(tops(caps), told)
        self.assertEqual(tops([(0, None), (0, HUGE)]), [(0, None)])
        self.assertEqual(tops([(1, None), (1, 5), (2, 5)]), [(1, None), (2, 5)])

    def test_the_empty_list_and_one(self):
        self.assertEqual(tops([]), [])
        self.assertEqual(tops([(None,)]), [(None,)])
        self.assertEqual(tops([(0,)]), [(0,)])

    def test_caps_alike_are_told_once(self):
        self.assertEqual(tops([(1, None), (1, None), (None, 1), (1, None)]), [(1, None), (None, 1)])
        self.assertEqual(tops([(0,)] * 30), [(0,)])

    def test_none_alone_leaves_nothing_else(self):
        self.assertEqual(tops([(0, 0), (None, None), (HUGE, None), (None, 3)]), [(None, None)])

    def test_made_lists(self):
        dice = random.Random(54)
        for each in range(500):
            many = dice.randint(1, 6)
            numbers = dice.choice(((None, 0, 1, 2), (None, 0, 1, 2, TOP, HUGE), (0, 1, 2, 3)))
            caps = [tuple(dice.choice(numbers) for place in range(many)) for one in range(dice.randint(0, 20))]
            self.assertEqual(tops(caps), plain_tops(caps))
            dice.shuffle(caps)
            self.assertEqual(tops(caps), plain_tops(caps))

    def test_three_hundred_caps_none_under_another(self):
        caps = [(k, 299 - k, None) for k in range(300)]
        self.assertEqual(tops(caps[::-1]), caps)

    def test_kinds(self):
        self.assertIs(type(tops([])), list)
        self.assertEqual([type(cap) for cap in tops([(1, 0), (0, None)])], [tuple, tuple])


class Growth(unittest.TestCase):
    def test_an_ordinary_one(self):
        made = ((2, 0), CARRY)
        self.assertEqual(growth(made, 20), [((2, 0), None, None), ((1, 1), 0, 0), ((0, 2), 1, 0)])

    def test_it_grows(self):
        self.assertEqual(growth(((0,), MAKE), 20), [((0,), None, None), ((None,), 0, 0)])
        made = ((1, 0), (((1, 0), (0, 1)), ((0, 1), (1, 1))))
        self.assertEqual(growth(made, 20), [((1, 0), None, None), ((0, 1), 0, 0), ((None, None), 1, 1)])
        made = ((1, 0, 0), (((1, 0, 0), (0, 1, 0)), ((0, 1, 0), (1, 0, 2))))
        told = [((1, 0, 0), None, None), ((0, 1, 0), 0, 0), ((1, 0, None), 1, 1), ((0, 1, None), 2, 0)]
        self.assertEqual(growth(made, 20), told)

    def test_no_moves(self):
        for most in (1, 30):
            self.assertEqual(growth(((3, 0), ()), most), [((3, 0), None, None)])

    def test_moves_that_can_not_go_and_moves_that_change_nothing(self):
        moves = (((2,), (5,)), ((0,), (0,)), ((1,), (1,)), ((1,), (0,)))
        self.assertEqual(growth(((1,), moves), 1), [((1,), None, None)])

    def test_the_first_of_its_list_is_the_beginning(self):
        for made in made_moors(55, 50):
            told = growth(made, 30)
            if told is not None:
                self.assertEqual(told[0], (made[0], None, None))
        self.assertEqual(growth(((HUGE, 0), ()), 1), [((HUGE, 0), None, None)])

    def test_just_as_many_as_most_and_one_more(self):
        for most in (1, 2, 13, 30):
            just = [((most - 1 - k, k), k - 1 if k else None, 0 if k else None) for k in range(most)]
            self.assertEqual(growth(((most - 1, 0), CARRY), most), just)
            self.assertIsNone(growth(((most, 0), CARRY), most))

    def test_one_more_among_several_from_the_last_cap(self):
        # Each move leads from the beginning to a cap of its own.
        moves = tuple(((1,) + (0,) * 5, (0,) * k + (1,) + (0,) * (5 - k)) for k in range(1, 6))
        made = ((1, 0, 0, 0, 0, 0), moves)
        self.assertEqual(len(growth(made, 6)), 6)
        for most in range(1, 6):
            self.assertIsNone(growth(made, most))

    def test_taken_in_their_order_and_the_moves_in_theirs(self):
        moves = (((1, 0, 0), (0, 0, 1)), ((1, 0, 0), (0, 1, 0)), ((0, 1, 0), (0, 0, 0)))
        told = [((1, 0, 0), None, None), ((0, 0, 1), 0, 0), ((0, 1, 0), 0, 1)]
        self.assertEqual(growth(((1, 0, 0), moves), 30), told)
        told = [((1, 0, 0), None, None), ((0, 1, 0), 0, 1), ((0, 0, 1), 0, 2)]
        self.assertEqual(growth(((1, 0, 0), moves[2:] + moves[1::-1]), 30), told)

    def test_what_is_under_a_cap_is_held_against_the_whole_list(self):
        # The second move leads under a cap that the first one put there, though not on its way.
        moves = (((1, 0), (0, 5)), ((1, 0), (0, 4)))
        self.assertEqual(growth(((1, 0), moves), 30), [((1, 0), None, None), ((0, 5), 0, 0)])
        # The other way about both are put there: nothing that is in the list is taken out.
        told = [((1, 0), None, None), ((0, 4), 0, 0), ((0, 5), 0, 1)]
        self.assertEqual(growth(((1, 0), moves[::-1]), 30), told)

    def test_only_elders_raise(self):
        # (0, 5) isn't come from (0, 4), so it stays as it is.
        moves = (((1, 0), (0, 4)), ((1, 0), (0, 5)))
        self.assertIn(((0, 5), 0, 1), growth(((1, 0), moves), 30))

    def test_each_raises_what_has_become_of_it_by_then_the_nearest_first(self):
        # (3, 1) becomes (None, 1) by (2, 1); only so is (5, 0) under it.
        moves = (((5, 0), (2, 1)), ((2, 1), (3, 1)))
        told = [((5, 0), None, None), ((2, 1), 0, 0), ((None, None), 1, 1)]
        self.assertEqual(growth(((5, 0), moves), 30), told)

    def test_an_elder_that_is_not_under_it_raises_nothing(self):
        moves = (((0, 1, 1), (1, 0, 0)), ((1, 0, 0), (1, 1, 0)))
        told = growth(((0, 1, 1), moves), 30)
        self.assertEqual(told, [((0, 1, 1), None, None), ((1, 0, 0), 0, 0), ((1, None, 0), 1, 1)])

    def test_made_ones_row_by_row(self):
        seen = {True: 0, False: 0}
        dice = random.Random(56)
        for made in made_moors(57, 600):
            for most in (30, dice.randint(1, 29)):
                told = growth(made, most)
                self.assertEqual(told, plain_growth(made, most)[0])
                seen[told is None] += 1
        self.assertTrue(min(seen.values()) > 100)

    def test_just_as_many_as_most_and_one_more_in_made_ones(self):
        for made in made_moors(58, 100):
            told = growth(made, 30)
            if told is not None:
                self.assertEqual(growth(made, len(told)), told)
                if len(told) > 1:
                    self.assertIsNone(growth(made, len(told) - 1))

    def test_great_numbers(self):
        made = ((HUGE, 0), (((TOP, 0), (0, TOP)), ((0, TOP), (TOP, 1))))
        self.assertEqual(growth(made, 30), plain_growth(made, 30)[0])
        made = ((3 * TOP, 0), (((TOP, 0), (0, TOP)), ((0, 3 * TOP), (0, 0))))
        self.assertEqual([row[0] for row in growth(made, 4)], [
            (3 * TOP, 0), (2 * TOP, TOP), (TOP, 2 * TOP), (0, 3 * TOP)])

    def test_kinds(self):
        told = growth(((1, 0), (((1, 0), (1, 1)),)), 5)
        self.assertEqual((type(told), type(told[1]), type(told[1][0])), (list, tuple, tuple))
        self.assertEqual([type(thing) for thing in told[1]], [tuple, int, int])


class Crown(unittest.TestCase):
    def test_ordinary_ones(self):
        self.assertEqual(crown(((2, 0), CARRY), 20), [(0, 2), (1, 1), (2, 0)])
        self.assertEqual(crown(((0,), MAKE), 20), [(None,)])
        self.assertEqual(crown(((3, 0), ()), 1), [(3, 0)])

    def test_none_just_where_the_growth_is_none(self):
        for most in (1, 2, 13, 30):
            self.assertEqual(crown(((most - 1, 0), CARRY), most), [(k, most - 1 - k) for k in range(most)])
            self.assertIsNone(crown(((most, 0), CARRY), most))

    def test_the_tops_of_the_growth_in_made_moors(self):
        for made in made_moors(59, 300):
            for most in (3, 30):
                rows = plain_growth(made, most)[0]
                told = crown(made, most)
                if rows is None:
                    self.assertIsNone(told)
                else:
                    self.assertEqual(told, plain_tops([row[0] for row in rows]))

    def test_each_stand_that_is_come_to_is_under_a_cap(self):
        finite = 0
        for made in made_moors(60, 300):
            told = crown(made, 30)
            if told is None:
                continue
            stands, whole = flood(made[0], made[1], 80)
            for stand in stands:
                self.assertTrue(any(cap_under(stand, cap) for cap in told))
            if whole:
                finite += 1
                self.assertEqual(told, plain_tops(stands))
        self.assertTrue(finite > 100)

    def test_the_same_in_whichever_order_the_moves_stand(self):
        dice = random.Random(61)
        compared = 0
        for made in made_moors(62, 300):
            told = crown(made, 30)
            for each in range(3):
                other = crown((made[0], tuple(dice.sample(made[1], len(made[1])))), 30)
                if told is not None and other is not None:
                    compared += 1
                    self.assertEqual(other, told)
        self.assertTrue(compared > 500)

    def test_kinds(self):
        told = crown(((2, 0), CARRY), 20)
        self.assertEqual((type(told), type(told[0])), (list, tuple))


class IsCrown(unittest.TestCase):
    def test_ordinary_ones(self):
        made = ((2, 0), CARRY)
        self.assertIs(is_crown(made, [(0, 2), (1, 1), (2, 0)]), True)
        self.assertIs(is_crown(made, [(0, 2), (1, 1)]), False)
        self.assertIs(is_crown(made, [(1, 1), (2, 0)]), False)
        self.assertIs(is_crown(made, [(None, None)]), True)
        self.assertIs(is_crown(made, [(2, None)]), True)
        self.assertIs(is_crown(made, [(2, 2)]), False)

    def test_the_empty_list(self):
        for made in PLAIN:
            self.assertIs(is_crown(made, []), False)

    def test_the_beginning_must_be_under_one(self):
        self.assertIs(is_crown(((3,), ()), [(2,)]), False)
        self.assertIs(is_crown(((3,), ()), [(3,)]), True)
        self.assertIs(is_crown(((HUGE,), ()), [(HUGE,)]), True)
        self.assertIs(is_crown(((HUGE,), ()), [(HUGE - 1,)]), False)
        self.assertIs(is_crown(((3, 3), ()), [(3, 2), (2, 3)]), False)

    def test_each_cap_must_be_kept_also_one_that_is_not_needed(self):
        made = ((0, 0), (((0, 1), (1, 1)),))
        self.assertIs(is_crown(made, [(0, 0)]), True)
        self.assertIs(is_crown(made, [(0, 0), (0, 1)]), False)
        self.assertIs(is_crown(made, [(0, 1), (0, 0)]), False)
        self.assertIs(is_crown(made, [(0, 0), (None, 1)]), True)

    def test_lists_with_caps_alike_and_caps_under_others(self):
        made = ((2, 0), CARRY)
        self.assertIs(is_crown(made, [(2, 0), (2, 0), (1, 1), (0, 2), (1, 1), (0, 0)]), True)
        self.assertIs(is_crown(made, [(2, 0), (2, 0), (1, 1), (1, 1), (0, 0)]), False)

    def test_a_told_crown_is_one_and_without_one_cap_it_is_none(self):
        asked = 0
        for made in made_moors(63, 200):
            told = crown(made, 30)
            if told is not None:
                self.assertIs(is_crown(made, told), True)
                for cap in told:
                    asked += 1
                    self.assertIs(is_crown(made, [other for other in told if other != cap]), False)
        self.assertTrue(asked > 300)

    def test_made_lists(self):
        dice = random.Random(64)
        seen = {True: 0, False: 0}
        for begin, moves in made_moors(65, 600):
            caps = [tuple(dice.choice((None, None, None, 0, 1, 3, 4)) for place in begin)
                    for each in range(dice.randint(0, 4))]
            behind = [cap_walk(cap, move) for cap in caps for move in moves]
            asked = [begin] + [cap for cap in behind if cap is not None]
            is_one = all(any(cap_under(cap, other) for other in caps) for cap in asked)
            self.assertIs(is_crown((begin, moves), caps), is_one)
            seen[is_one] += 1
        self.assertTrue(min(seen.values()) > 100)


if __name__ == "__main__":
    unittest.main()
