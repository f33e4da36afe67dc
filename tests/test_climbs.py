import random
import unittest

from helpers import HUGE, PLAIN, TOP, flood, plain_growth, some_moors, sparse_moors, walk
from tokenmoor.climbs import climb, lifts_of, peak, row_between, way
from tokenmoor.crowns import crown, growth
from tokenmoor.walks import stride

SIXTY = 10 ** 60 - 1
HEIGHTS = (0, 1, 7, TOP, 10 ** 59, SIXTY)
CARRY = (((1, 0), (0, 1)),)
# A counter goes to and fro; each time it comes back, two are put on the third place.
TO_AND_FRO = ((1, 0, 0), (((1, 0, 0), (0, 1, 0)), ((0, 1, 0), (1, 0, 2))))
# Each place is filled by TOP counters of the one before, the first one by nothing.
STAIRS = ((0,) * 6, (((0,) * 6, (1, 0, 0, 0, 0, 0)),) + tuple(
    ((0,) * k + (TOP,) + (0,) * (5 - k), (0,) * (k + 1) + (1,) + (0,) * (4 - k)) for k in range(5)))
# A row of twenty-eight moves lifts the first place; then a single move lifts the second.
LONG = ((27, 0), (((1, 0), (0, 1)), ((0, 27), (28, 0))))
# One cap is lifted by two elders, the nearer one first.
TWICE = ((5, 0), (((5, 0), (2, 1)), ((2, 1), (3, 1))))


def made_trees(seed, how_many):
    """Moors with their growth, its elders and its lifts as point 23 says them; those whose growth is None left out."""
    hand = [TO_AND_FRO, STAIRS, LONG, TWICE, ((29, 0), CARRY), ((HUGE, 0), TO_AND_FRO[1][:0])] + list(PLAIN)
    for made in hand + some_moors(seed, how_many) + sparse_moors(seed, how_many):
        rows, elders, lifts = plain_growth(made, 30)
        if rows is not None:
            yield made, rows, elders, lifts


def gone(begin, moves, blocks):
    """The stand behind the blocks, None where a move can't go."""
    here = begin
    for row, times in blocks:
        if times == 0 or not row:
            continue
        once = walk(here, moves, row)[0]
        if once is None:
            return None
        # Each place rises or falls evenly from time to time: if the first and the last one go, all do.
        here = walk(tuple(h + (times - 1) * (o - h) for h, o in zip(here, once)), moves, row)[0]
        if here is None:
            return None
    return here


class Ways(unittest.TestCase):
    def test_ordinary_ones(self):
        tree = [((1, 1), None, None), ((0, 1), 0, 2), ((1, 0), 0, 1), ((0, 0), 1, 1), ((5, 5), 3, 0)]
        self.assertEqual(way(tree, 0), [0])
        self.assertEqual(way(tree, 2), [0, 2])
        self.assertEqual(way(tree, 4), [0, 1, 3, 4])
        self.assertEqual(row_between(tree, 0, 4), [2, 1, 0])
        self.assertEqual(row_between(tree, 1, 4), [1, 0])
        self.assertEqual(row_between(tree, 3, 4), [0])
        self.assertEqual(row_between(tree, 0, 2), [1])

    def test_between_one_and_itself(self):
        for made, rows, elders, lifts in made_trees(71, 40):
            for number in range(len(rows)):
                self.assertEqual(row_between(rows, number, number), [])

    def test_made_ones(self):
        for made, rows, elders, lifts in made_trees(72, 200):
            for number in range(len(rows)):
                told = way(rows, number)
                self.assertEqual(told, elders[number][::-1] + [number])
                for at, elder in enumerate(told):
                    row = [rows[k][2] for k in told[at + 1:]]
                    self.assertEqual(row_between(rows, elder, number), row)

    def test_a_way_of_thirty(self):
        tree = growth(((29, 0), CARRY), 30)
        self.assertEqual(way(tree, 29), list(range(30)))
        self.assertEqual(row_between(tree, 0, 29), [0] * 29)

    def test_kinds(self):
        tree = growth(TO_AND_FRO, 30)
        self.assertIs(type(way(tree, 2)), list)
        self.assertIs(type(row_between(tree, 0, 2)), list)
        self.assertIs(type(row_between(tree, 2, 2)), list)


class Lifts(unittest.TestCase):
    def test_ordinary_ones(self):
        tree = growth(TO_AND_FRO, 30)
        self.assertEqual([lifts_of(TO_AND_FRO, tree, k) for k in range(4)], [[], [], [(0, (2,))], []])

    def test_two_elders_in_the_order_in_which_they_lifted(self):
        self.assertEqual(lifts_of(TWICE, growth(TWICE, 30), 2), [(1, (0,)), (0, (1,))])

    def test_several_places_by_one_elder_rising(self):
        made = ((0, 3, 0, 0), (((0, 0, 0, 0), (1, 0, 2, 1)),))
        self.assertEqual(lifts_of(made, growth(made, 30), 1), [(0, (0, 2, 3))])

    def test_the_first_of_the_list_and_no_moves(self):
        for made, rows, elders, lifts in made_trees(73, 40):
            self.assertEqual(lifts_of(made, rows, 0), [])
        self.assertEqual(lifts_of(((3,), ()), [((3,), None, None)], 0), [])

    def test_a_place_that_was_none_already_is_not_lifted_again(self):
        tree = growth(STAIRS, 30)
        self.assertEqual([lifts_of(STAIRS, tree, k) for k in range(7)], [[]] + [[(k, (k,))] for k in range(6)])

    def test_by_an_elder_far_off(self):
        tree = growth(LONG, 30)
        self.assertEqual(len(tree), 30)
        self.assertEqual(lifts_of(LONG, tree, 28), [(0, (0,))])
        self.assertEqual(lifts_of(LONG, tree, 29), [(28, (1,))])

    def test_made_ones_row_by_row(self):
        seen = {}
        for made, rows, elders, lifts in made_trees(74, 500):
            for number in range(len(rows)):
                self.assertEqual(lifts_of(made, rows, number), lifts[number])
                seen[len(lifts[number])] = seen.get(len(lifts[number]), 0) + 1
        self.assertTrue(seen[0] > 100 and seen[1] > 100 and seen[2] > 20)

    def test_kinds(self):
        told = lifts_of(TO_AND_FRO, growth(TO_AND_FRO, 30), 2)
        self.assertEqual((type(told), type(told[0]), type(told[0][1])), (list, tuple, tuple))


class Climbs(unittest.TestCase):
    def climbs(self, made, tree, number, height):
        """Holds a told climb against all that point 26 says of it, and tells it."""
        told = climb(made, tree, number, height)
        self.assertIs(type(told), list)
        self.assertLessEqual(len(told), 100)
        for block in told:
            self.assertIs(type(block), tuple)
            row, times = block
            self.assertEqual((type(row), type(times)), (list, int))
            self.assertLessEqual(len(row), 30)
            self.assertGreaterEqual(times, 0)
        stand = gone(made[0], made[1], told)
        self.assertIsNotNone(stand, (made, number, height))
        for has, bound in zip(stand, tree[number][0]):
            if bound is None:
                self.assertGreaterEqual(has, height)
            else:
                self.assertEqual(has, bound)
        self.assertEqual(stride(made, made[0], told), stand)
        return told

    def climbs_all(self, made):
        tree = growth(made, 30)
        for number in range(len(tree)):
            for height in HEIGHTS:
                self.climbs(made, tree, number, height)

    def test_ordinary_ones(self):
        self.climbs_all(((2, 0), CARRY))
        self.climbs_all(TO_AND_FRO)
        self.climbs_all(((0,), (((0,), (1,)),)))

    def test_to_the_first_of_the_list(self):
        for made, rows, elders, lifts in made_trees(75, 40):
            for height in (0, SIXTY):
                self.assertEqual(gone(made[0], made[1], climb(made, rows, 0, height)), made[0])

    def test_no_moves(self):
        for height in HEIGHTS:
            told = self.climbs(((3, 0), ()), [((3, 0), None, None)], 0, height)
            self.assertTrue(all(row == [] for row, times in told))

    def test_what_later_blocks_use_up_is_climbed_first(self):
        self.climbs_all(STAIRS)

    def test_a_way_of_twenty_nine_moves(self):
        self.climbs_all(((29, 0), CARRY))

    def test_a_long_row_again_and_again(self):
        self.climbs_all(LONG)

    def test_lifted_by_two_elders(self):
        self.climbs_all(TWICE)
        self.climbs_all(((28, 0), (((1, 0), (0, 1)), ((0, 28), (29, 28)))))

    def test_moves_that_take_nothing_or_put_nothing(self):
        self.climbs_all(((0, 1), (((0, 0), (0, 0)), ((0, 0), (2, 0)), ((3, 1), (0, 0)))))

    def test_a_row_that_uses_up_a_place_lifted_on_its_way(self):
        # From the second cap on the first place is None; the row that lifts the third one takes of it.
        self.climbs_all(((1, 1, 0), (((1, 1, 0), (3, 1, 0)), ((5, 1, 0), (0, 1, 1)), ((7, 0, 9), (0, 0, 0)))))

    def test_moves_take_from_a_lifted_place_where_the_height_is_nought(self):
        made = ((0, 1, 0), (((0, 0, 0), (1, 0, 0)), ((TOP, 1, 0), (0, 0, 1))))
        tree = growth(made, 30)
        self.assertIn((None, 0, 1), [row[0] for row in tree])
        self.climbs_all(made)

    def test_a_beginning_with_a_huge_number(self):
        self.climbs_all(((HUGE, 0), (((0, 0), (0, 1)), ((0, TOP), (0, 0)))))
        self.climbs_all(((HUGE, 1), (((1, 1), (1, 3)),)))

    def test_small_ones_gone_move_by_move(self):
        for made in (TO_AND_FRO, LONG, TWICE, ((3, 0), CARRY)):
            tree = growth(made, 30)
            for number in range(len(tree)):
                for height in range(12):
                    moves = []
                    for row, times in self.climbs(made, tree, number, height):
                        moves += row * times
                    stand, went = walk(made[0], made[1], moves)
                    self.assertEqual(went, len(moves))
                    self.assertEqual(stand, stride(made, made[0], climb(made, tree, number, height)))

    def test_made_ones(self):
        dice = random.Random(76)
        lifted = {}
        for made, rows, elders, lifts in made_trees(77, 2000):
            for number in range(len(rows)):
                many = sum(len(lifts[k]) for k in elders[number] + [number])
                lifted[many] = lifted.get(many, 0) + 1
                for height in (dice.randint(0, 3), SIXTY):
                    self.climbs(made, rows, number, height)
        self.assertTrue(min(lifted[1], lifted[2], lifted[3]) > 50 and lifted.get(4, 0) > 10)


class Peaks(unittest.TestCase):
    def test_ordinary_ones(self):
        self.assertEqual([peak(((2, 0), CARRY), place, 20) for place in (0, 1)], [("at most", 2), ("at most", 2)])
        told = [("at most", 1), ("at most", 1), ("grows",)]
        self.assertEqual([peak(TO_AND_FRO, place, 20) for place in range(3)], told)

    def test_no_moves(self):
        self.assertEqual(peak(((3, 0), ()), 0, 1), ("at most", 3))
        self.assertEqual(peak(((3, 0), ()), 1, 1), ("at most", 0))
        self.assertEqual(peak(((HUGE,), ()), 0, 30), ("at most", HUGE))

    def test_the_greatest_number_is_not_always_in_the_last_cap(self):
        moves = (((1, 0, 0), (0, 4, 0)), ((1, 0, 0), (0, 0, 9)))
        told = [("at most", 1), ("at most", 4), ("at most", 9)]
        self.assertEqual([peak(((1, 0, 0), moves), place, 20) for place in range(3)], told)

    def test_a_place_grows_where_any_cap_has_none(self):
        moves = (((1, 0, 0), (0, 1, 0)), ((1, 0, 0), (0, 0, 9)), ((0, 1, 0), (0, 1, 1)))
        told = [("at most", 1), ("at most", 1), ("grows",)]
        self.assertEqual([peak(((1, 0, 0), moves), place, 20) for place in range(3)], told)

    def test_just_as_many_as_most_and_one_more(self):
        for most in (1, 2, 13, 30):
            self.assertEqual(peak(((most - 1, 0), CARRY), 1, most), ("at most", most - 1))
            self.assertEqual(peak(((most, 0), CARRY), 1, most), ("open",))

    def test_made_ones_against_all_stands_that_are_come_to(self):
        seen = {"at most": 0, "grows": 0, "open": 0}
        dice = random.Random(78)
        for made in some_moors(79, 300) + sparse_moors(79, 300) + list(PLAIN):
            most = dice.choice((1, 3, 30))
            stands, whole = flood(made[0], made[1], 100)
            for place in range(len(made[0])):
                told = peak(made, place, most)
                greatest = max(stand[place] for stand in stands)
                seen[told[0]] += 1
                self.assertEqual(told == ("open",), crown(made, most) is None)
                if whole and told[0] != "open":
                    self.assertEqual(told, ("at most", greatest))
                if told[0] == "at most":
                    self.assertGreaterEqual(told[1], greatest)
        self.assertTrue(min(seen.values()) > 50)

    def test_rows_come_to_each_greatest_number_and_to_any_height(self):
        for made, rows, elders, lifts in made_trees(80, 150):
            for place in range(len(made[0])):
                told = peak(made, place, 30)
                bounds = [row[0][place] for row in rows]
                wanted = None if told == ("grows",) else told[1]
                number = bounds.index(wanted)
                stand = gone(made[0], made[1], climb(made, rows, number, SIXTY))
                self.assertTrue(stand[place] >= SIXTY if wanted is None else stand[place] == wanted)

    def test_kinds(self):
        told = peak(((2, 0), CARRY), 0, 20)
        self.assertEqual((type(told), type(told[1]), len(told)), (tuple, int, 2))
        self.assertIs(type(peak(((2, 0), CARRY), 0, 1)), tuple)
        self.assertIs(type(peak(TO_AND_FRO, 2, 20)), tuple)


if __name__ == "__main__":
    unittest.main()
