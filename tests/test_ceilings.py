import itertools
import random
import unittest

from helpers import (
    TOP, great_moves, made_moves, move_of, plain_changes, plain_falling, plain_weight, some_moors, some_row,
    sparse_moors, walk)
from tokenmoor.ceilings import ceiling, level

CARRY = ((1, 0), (0, 1))
MAKE = ((0, 0), (1, 0))
LOSE = ((1, 0), (0, 0))


def gained(moves, bag, many):
    """What all moves of the bag change together, place by place."""
    return [sum(times * (put[at] - take[at]) for times, (take, put) in zip(bag, moves)) for at in range(many)]


def holds(moves, place, many, told):
    """Whether the answer is as point 30 says."""
    if told[0] == "weights":
        return len(told[1]) == many and told[1][place] >= 1 and plain_falling(moves, told[1])
    sums = gained(moves, told[1], many)
    return len(told[1]) == len(moves) and min(told[1]) >= 0 and min(sums) >= 0 and sums[place] >= 1


def small_bag(moves, place, many, top):
    """A bag for the place among those with each move at most so often, found by trying them all."""
    for bag in itertools.product(range(top + 1), repeat=len(moves)):
        if moves and holds(moves, place, many, ("bag", bag)):
            return bag
    return None


def small_weights(moves, place, many, top):
    for weights in itertools.product(range(top + 1), repeat=many):
        if holds(moves, place, many, ("weights", weights)):
            return weights
    return None


class Held(unittest.TestCase):
    def is_plain(self, told, length):
        self.assertIs(type(told), tuple)
        self.assertEqual(len(told), length)
        self.assertIn(told[0], ("weights", "bag"))
        self.assertIs(type(told[-1]), tuple)
        self.assertTrue(all(type(number) is int for number in told[-1]))

    def is_ceiling(self, moves, place, many, told):
        self.is_plain(told, 2)
        self.assertTrue(holds(moves, place, many, told), (moves, place, told))

    def is_level(self, moves, many, told):
        kinds = [ceiling(moves, place, many)[0] for place in range(many)]
        if "bag" in kinds:
            self.is_plain(told, 3)
            self.assertEqual(told[:2], ("bag", kinds.index("bag")))
            self.assertIs(type(told[1]), int)
            self.assertTrue(holds(moves, told[1], many, ("bag", told[2])))
        else:
            self.is_plain(told, 2)
            self.assertEqual(told[0], "weights")
            self.assertTrue(min(told[1]) >= 1 and holds(moves, 0, many, told), (moves, told))


class Ceiling(Held):
    def asked(self, moves, many, kinds):
        """Each place's ceiling is of the kind told here, W for weights and B for a bag, and holds."""
        self.assertEqual(len(kinds), many)
        for place in range(many):
            told = ceiling(moves, place, many)
            self.is_ceiling(moves, place, many, told)
            self.assertEqual(told[0], {"W": "weights", "B": "bag"}[kinds[place]], (moves, place))

    def test_ordinary_ones(self):
        self.asked((CARRY,), 2, "WW")
        self.asked((CARRY, MAKE), 2, "BB")
        self.asked((CARRY, LOSE), 2, "WW")
        self.asked((MAKE,), 2, "BW")
        self.asked((LOSE,), 2, "WW")
        self.asked((((1, 0), (0, 2)), ((0, 2), (1, 0))), 2, "WW")
        self.asked((((1, 0), (0, 2)), ((0, 1), (1, 0))), 2, "BB")
        self.asked((((1, 0), (0, 2)), ((0, 3), (1, 0))), 2, "WW")

    def test_what_only_moves_together_bring(self):
        # The moves pay for one another; none of them fills the third place by itself.
        moves = (((1, 0, 0), (0, 1, 1)), ((0, 1, 0), (1, 0, 0)))
        self.asked(moves, 3, "WWB")
        self.assertEqual(ceiling(moves, 2, 3)[1][0], ceiling(moves, 2, 3)[1][1])
        # Move 1 needs two of what move 0 brings once: in the end there is nothing more than before.
        self.asked((((1, 0, 0), (0, 1, 1)), ((0, 2, 0), (1, 0, 0))), 3, "WWW")

    def test_moves_are_counted_by_their_change_alone(self):
        # What a move takes and puts back is no hindrance here, though it may never be there.
        self.asked((((5, 0), (6, 0)),), 2, "BW")
        self.asked((((5, 3), (5, 3)),), 2, "WW")
        self.asked((((0, TOP), (1, TOP)),), 2, "BW")

    def test_no_moves_and_moves_without_a_change(self):
        for many in range(1, 7):
            nothing = ((0,) * many, (0,) * many)
            same = ((TOP,) * many, (TOP,) * many)
            for moves in ((), (nothing,), (same,), (nothing, same) * 4):
                self.asked(moves, many, "W" * many)

    def test_moves_that_put_nothing_or_take_nothing(self):
        for many in range(1, 7):
            some = tuple(range(1, many + 1))
            self.asked(((some, (0,) * many),), many, "W" * many)
            self.asked((((0,) * many, some),), many, "B" * many)
            self.asked((((0,) * many, some), (some, (0,) * many)), many, "B" * many)
            self.asked(((some, (0,) * many), ((0,) * many, (1,) * many)), many, "B" * many)
            for place in range(many):
                one = tuple(TOP if at == place else 0 for at in range(many))
                kinds = "".join("B" if at == place else "W" for at in range(many))
                self.asked((((0,) * many, one),), many, kinds)

    def test_a_move_and_the_same_turned_about(self):
        for begin, moves in some_moors(121, 60) + sparse_moors(121, 60):
            for move in moves:
                step = [p - t for t, p in zip(*move)]
                kinds = "W" * len(begin)
                if min(step) >= 0 or max(step) <= 0:
                    kinds = "".join("B" if by else "W" for by in step)
                self.asked((move, move[::-1]), len(begin), kinds)

    def test_weights_beside_a_bag(self):
        self.asked((((1, 0, 0), (0, 1, 0)), ((0, 0, 0), (0, 0, 1))), 3, "WWB")
        self.asked((((0, 0, 1), (0, 1, 0)), ((0, 0, 0), (1, 0, 0))), 3, "BWW")
        self.asked((((0, 1, 0), (1, 0, 1)), ((0, 0, 1), (0, 1, 0))), 3, "BWW")

    def test_weights_that_must_be_great(self):
        moves = tuple(move_of([0] * at + [-1, TOP] + [0] * (4 - at)) for at in range(5))
        self.asked(moves, 6, "WWWWWW")
        self.assertEqual(ceiling(moves, 0, 6)[1][0] >= TOP ** 5 * ceiling(moves, 0, 6)[1][5], True)
        for place in range(6):
            self.is_ceiling(moves, place, 6, ceiling(moves, place, 6))
        # One counter more comes round at the end, or just as many as went.
        round_about = move_of([1, 0, 0, 0, 0, -TOP])
        self.asked(moves + (round_about,), 6, "BBBBBB")
        one_less = tuple(move_of([0] * at + [-TOP, 1] + [0] * (4 - at)) for at in range(5))
        self.asked(one_less + (move_of([TOP, 0, 0, 0, 0, -1]),), 6, "WWWWWW")

    def test_bags_that_must_be_great(self):
        moves = tuple(move_of([0] * at + [-TOP, 1] + [0] * (4 - at)) for at in range(5)) + (move_of([1] + [0] * 5),)
        self.asked(moves, 6, "BBBBBB")
        self.assertTrue(ceiling(moves, 5, 6)[1][5] >= TOP ** 5)

    def test_great_changes_that_all_but_even_out(self):
        for less, kinds in ((1, "WW"), (0, "WW"), (-1, "BB")):
            self.asked((((TOP - 1, 0), (0, TOP - 2)), ((0, TOP - 2), (TOP - 1 - less, 0))), 2, kinds)

    def test_all_small_moves(self):
        steps = list(itertools.product(range(-2, 3), repeat=2))
        for moves in itertools.product([move_of(step) for step in steps], repeat=2):
            for place in (0, 1):
                told = ceiling(moves, place, 2)
                self.is_ceiling(moves, place, 2, told)
                if told[0] == "weights":
                    self.assertIsNone(small_bag(moves, place, 2, 4))
                else:
                    self.assertIsNone(small_weights(moves, place, 2, 4))

    def test_made_ones_held_against_all_small_bags_and_weights(self):
        seen = {"weights": 0, "bag": 0}
        for begin, moves in some_moors(122, 80) + sparse_moors(122, 80):
            many = len(begin)
            moves = moves[:4]
            for place in range(many):
                told = ceiling(moves, place, many)
                self.is_ceiling(moves, place, many, told)
                if many <= 4:
                    weights = small_weights(moves, place, many, 3)
                    bag = small_bag(moves, place, many, 3)
                    self.assertTrue(weights is None or bag is None)
                    self.assertEqual(told[0], "weights" if weights else "bag" if bag else told[0])
                    seen[told[0]] += weights is not None or bag is not None
        self.assertTrue(min(seen.values()) > 50, seen)

    def test_made_ones(self):
        seen = {"weights": 0, "bag": 0}
        for moves, many in made_moves(123, 300):
            for place in range(many):
                told = ceiling(moves, place, many)
                self.is_ceiling(moves, place, many, told)
                seen[told[0]] += 1
        self.assertTrue(min(seen.values()) > 1000, seen)

    def test_six_places_and_eight_moves_of_great_changes(self):
        dice = random.Random(124)
        seen = {"weights": 0, "bag": 0}
        for each in range(60):
            if each % 2:
                moves = great_moves(dice, 6, 8, dice.randint(1, 6))
            else:
                moves = tuple(move_of([dice.randint(-TOP, TOP) for place in range(6)]) for which in range(8))
            for place in range(6):
                told = ceiling(moves, place, 6)
                self.is_ceiling(moves, place, 6, told)
                seen[told[0]] += 1
        self.assertTrue(min(seen.values()) > 30, seen)

    def test_they_hold_behind_every_row_that_can_go(self):
        dice = random.Random(125)
        fell = 0
        for moves, many in made_moves(126, 80):
            for place in range(many):
                told = ceiling(moves, place, many)
                begin = dice.choice(((TOP * 9,) * many, tuple(dice.randint(0, 3) for at in range(many))))
                stand = walk(begin, moves, some_row(dice, moves, 5))[0]
                if told[0] == "weights" and stand is not None:
                    self.assertTrue(plain_weight(told[1], stand) <= plain_weight(told[1], begin))
                    self.assertTrue(stand[place] <= plain_weight(told[1], begin))
                    fell += stand != begin
                if told[0] == "bag" and max(told[1]) < 20:
                    row = [number for number, times in enumerate(told[1]) for each in range(times)]
                    begin = (TOP * 200,) * many
                    behind = walk(begin, moves, row)[0]
                    self.assertTrue(min(behind) >= TOP * 200 and behind[place] > TOP * 200)
        self.assertTrue(fell > 100)


class Level(Held):
    def test_ordinary_ones(self):
        for moves, many in (((CARRY,), 2), ((CARRY, LOSE), 2), ((((1, 0), (0, 2)), ((0, 2), (1, 0))), 2)):
            told = level(moves, many)
            self.is_level(moves, many, told)
            self.assertEqual(told[0], "weights")

    def test_a_bag_at_the_first_place_whose_ceiling_is_one(self):
        for many in range(1, 7):
            for places in itertools.product((0, 1), repeat=many):
                moves = tuple(
                    ((0,) * many, tuple(int(at == place) for at in range(many)))
                    for place in reversed(range(many)) if places[place])
                told = level(moves, many)
                self.is_level(moves, many, told)
                if any(places):
                    self.assertEqual(told[:2], ("bag", places.index(1)))
                else:
                    self.assertEqual(told[0], "weights")

    def test_weights_before_the_bag_don_t_hide_it(self):
        moves = (((1, 0, 0, 0), (0, 1, 0, 0)), ((0, 0, 0, 0), (0, 0, 1, 2)))
        told = level(moves, 4)
        self.is_level(moves, 4, told)
        self.assertEqual(told[:2], ("bag", 2))

    def test_no_moves_and_moves_without_a_change(self):
        for many in range(1, 7):
            for moves in ((), (((0,) * many, (0,) * many),), (((TOP,) * many, (TOP,) * many),) * 8):
                told = level(moves, many)
                self.is_level(moves, many, told)
                self.assertEqual(told[0], "weights")

    def test_every_place_has_a_weight_though_no_one_ceiling_has_them_all(self):
        # Two pairs of places that have nothing to do with one another, and one that no move touches.
        moves = (((1, 0, 0, 0, 0), (0, 2, 0, 0, 0)), ((0, 0, 3, 0, 0), (0, 0, 0, 1, 0)))
        told = level(moves, 5)
        self.is_level(moves, 5, told)
        self.assertTrue(min(told[1]) >= 1)

    def test_made_ones(self):
        seen = {}
        for moves, many in made_moves(127, 200):
            told = level(moves, many)
            self.is_level(moves, many, told)
            kind = told[0] if told[0] == "weights" else "later bag" if told[1] else "first bag"
            seen[kind] = seen.get(kind, 0) + 1
            if told[0] == "weights":
                self.assertTrue(all(number <= 0 for number in plain_changes(moves, told[1])))
        self.assertTrue(len(seen) == 3 and min(seen.values()) > 50, seen)


if __name__ == "__main__":
    unittest.main()
