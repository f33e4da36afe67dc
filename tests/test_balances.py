import itertools
import math
import random
import unittest
from fractions import Fraction

from helpers import HUGE, TOP, great_moves, made_moves, move_of, plain_changes, plain_weight, some_row, walk
from tokenmoor.balances import balances, shares


def steps_of(moves):
    return [[p - t for t, p in zip(take, put)] for take, put in moves]


def upper_form(rows):
    """The rows that elimination by fractions leaves, without those that are all noughts."""
    left = [[Fraction(number) for number in row] for row in rows]
    kept = []
    while left:
        left = [row for row in left if any(row)]
        if not left:
            break
        column = min(min(at for at, number in enumerate(row) if number) for row in left)
        lead = next(row for row in left if row[column])
        left.remove(lead)
        left = [[n - m * row[column] / lead[column] for n, m in zip(row, lead)] for row in left]
        kept.append(lead)
    return kept


def determinant(square):
    kept = [list(row) for row in square]
    if not kept:
        return 1
    # Along the first row, each number with what is left without its column.
    return sum(
        (-1) ** at * number * determinant([row[:at] + row[at + 1:] for row in kept[1:]])
        for at, number in enumerate(kept[0]) if number)


def shared_divisor(rows, many):
    """Of all squares of as many columns as there are rows: 1 just where all whole weights in between are sums too."""
    found = 0
    for columns in itertools.combinations(range(many), len(rows)):
        found = math.gcd(found, determinant([[row[at] for at in columns] for row in rows]))
    return found


def plain_times(basis, weights):
    """The times by which the weights are a sum, as fractions found by trying each lead; None where there are none."""
    columns = [next(at for at, number in enumerate(row) if number) for row in basis]
    times = []
    for which, column in enumerate(columns):
        so_far = sum(times[at] * basis[at][column] for at in range(which))
        times.append(Fraction(weights[column] - so_far, basis[which][column]))
    for column in range(len(weights)):
        if sum(times[at] * row[column] for at, row in enumerate(basis)) != weights[column]:
            return None
    if any(number.denominator != 1 for number in times):
        return None
    return [int(number) for number in times]


def some_form(dice, many, top):
    """A list of the form of point 29, of any numbers up to top, and not always of balances of any moves."""
    columns = sorted(dice.sample(range(many), dice.randint(0, many)))
    leads = {column: dice.randint(1, top) for column in columns}
    made = []
    for column in columns:
        row = [0] * column + [leads[column]]
        for at in range(column + 1, many):
            row.append(dice.randrange(leads[at]) if at in leads else dice.randint(-top, top))
        made.append(tuple(row))
    return made


def summed(basis, times, many):
    return tuple(sum(t * row[place] for t, row in zip(times, basis)) for place in range(many))


class Balances(unittest.TestCase):
    def has_form(self, told, many):
        self.assertIs(type(told), list)
        before = -1
        for number, weights in enumerate(told):
            self.assertIs(type(weights), tuple)
            self.assertEqual(len(weights), many)
            self.assertTrue(all(type(weight) is int for weight in weights))
            self.assertTrue(any(weights))
            column = next(at for at, weight in enumerate(weights) if weight)
            self.assertTrue(weights[column] > 0 and column > before, told)
            for other in told[:number]:
                self.assertTrue(0 <= other[column] < weights[column], told)
            before = column

    def test_ordinary_ones(self):
        self.assertEqual(balances((((1, 0), (0, 1)),), 2), [(1, 1)])
        self.assertEqual(balances((((1, 0), (0, 2)),), 2), [(2, 1)])
        self.assertEqual(balances((((2, 0), (0, 3)),), 2), [(3, 2)])
        self.assertEqual(balances((((0, 0), (1, 1)),), 2), [(1, -1)])
        self.assertEqual(balances((((0, 0), (2, 4)),), 2), [(2, -1)])
        self.assertEqual(balances((((1, 0, 0), (0, 1, 0)), ((0, 1, 0), (0, 0, 1))), 3), [(1, 1, 1)])
        self.assertEqual(balances((((1, 0, 1, 0), (0, 1, 0, 1)),), 4), [(1, 0, 0, 1), (0, 1, 0, -1), (0, 0, 1, 1)])

    def test_the_weights_before_are_held_below_the_lead(self):
        self.assertEqual(balances((((0, 4, 0), (2, 0, 6)),), 3), [(1, 2, 1), (0, 3, 2)])
        self.assertEqual(balances((((0, 6, 0), (0, 0, 4)),), 3), [(1, 0, 0), (0, 2, 3)])
        self.assertEqual(balances((((0, 0, 5), (1, 3, 0)),), 3), [(1, 3, 2), (0, 5, 3)])
        self.assertEqual(balances((((0, 0, 5), (4, 2, 0)),), 3), [(1, 3, 2), (0, 5, 2)])

    def test_not_every_lead_is_one(self):
        # No number of times of the lead alone brings the weights between: the whole list is asked for.
        told = balances((((3, 0, 0), (0, 5, 0)), ((0, 7, 0), (0, 0, 2))), 3)
        self.assertEqual(told, [(10, 6, 21)])

    def test_one_place(self):
        self.assertEqual(balances((), 1), [(1,)])
        self.assertEqual(balances((((3,), (3,)),), 1), [(1,)])
        self.assertEqual(balances((((3,), (4,)),), 1), [])
        self.assertEqual(balances((((TOP,), (0,)),), 1), [])

    def test_moves_that_leave_every_weight_a_balance(self):
        for many in range(1, 7):
            units = [tuple(int(at == place) for at in range(many)) for place in range(many)]
            self.assertEqual(balances((), many), units)
            for number in (0, 1, TOP):
                self.assertEqual(balances((((number,) * many, (number,) * many),) * 8, many), units)

    def test_moves_whose_balances_are_none(self):
        for many in range(1, 7):
            moves = tuple(move_of([int(at <= place) for at in range(many)]) for place in range(many))
            self.assertEqual(balances(moves, many), [])
            self.assertEqual(len(balances(moves[1:], many)), 1)

    def test_moves_turned_about_and_moves_twice_change_nothing(self):
        for moves, many in made_moves(101, 60):
            told = balances(moves, many)
            self.assertEqual(balances(tuple((put, take) for take, put in moves), many), told)
            self.assertEqual(balances(moves[::-1] + moves + (((0,) * many, (0,) * many),), many), told)

    def test_great_numbers(self):
        self.assertEqual(balances((((TOP, 0), (0, 1)),), 2), [(1, TOP)])
        self.assertEqual(balances((((TOP, 0), (0, TOP)),), 2), [(1, 1)])
        self.assertEqual(balances((((TOP, 0), (0, TOP - 1)),), 2), [(TOP - 1, TOP)])
        moves = (((0, TOP, 0), (TOP - 1, 0, 0)), ((TOP, 0, 0), (0, 0, 1)))
        self.assertEqual(balances(moves, 3), [(TOP, TOP - 1, TOP ** 2)])

    def is_the_list(self, moves, many, told):
        # Just so many, each a balance, and no whole weights in between that are no sums of them.
        self.has_form(told, many)
        for weights in told:
            self.assertEqual(plain_changes(moves, weights), [0] * len(moves))
        self.assertEqual(len(told), many - len(upper_form(steps_of(moves))))
        self.assertEqual(shared_divisor(told, many), 1, told)

    def test_six_places_and_up_to_eight_moves_of_great_changes(self):
        dice = random.Random(102)
        for kinds in range(1, 7):
            moves = great_moves(dice, 6, 8, kinds)
            told = balances(moves, 6)
            self.assertEqual(len(told), 6 - kinds)
            self.is_the_list(moves, 6, told)
        for how_many in range(1, 9):
            moves = tuple(move_of([dice.randint(-TOP, TOP) for place in range(6)]) for each in range(how_many))
            told = balances(moves, 6)
            self.assertEqual(len(told), max(0, 6 - how_many))
            self.is_the_list(moves, 6, told)

    def test_made_ones(self):
        seen = {}
        for moves, many in made_moves(103, 200):
            told = balances(moves, many)
            self.is_the_list(moves, many, told)
            seen[len(told)] = seen.get(len(told), 0) + 1
        self.assertTrue(min(seen[number] for number in range(6)) > 10, seen)

    def test_each_small_balance_is_a_sum_in_just_one_way(self):
        held = 0
        for moves, many in made_moves(104, 60):
            if many > 4:
                continue
            told = balances(moves, many)
            # No row is a sum of the others, so no balance is a sum in two ways.
            self.assertEqual(len(upper_form(told)), len(told))
            for weights in itertools.product(range(-2, 3), repeat=many):
                even = not any(plain_changes(moves, weights))
                times = plain_times(told, weights)
                self.assertEqual(times is not None, even)
                self.assertEqual(shares(told, weights), times)
                held += even
        self.assertTrue(held > 1000)

    def test_they_hold_behind_every_row_that_can_go(self):
        dice = random.Random(105)
        held = 0
        for moves, many in made_moves(106, 100):
            told = balances(moves, many)
            for begin in ((TOP * 9,) * many, tuple(dice.randint(0, 3) for place in range(many))):
                stand, went = walk(begin, moves, some_row(dice, moves, 5))
                for weights in told if stand is not None else []:
                    self.assertEqual(plain_weight(weights, stand), plain_weight(weights, begin))
                    held += stand != begin
        self.assertTrue(held > 200)


class Shares(unittest.TestCase):
    def test_ordinary_ones(self):
        basis = [(1, 2, 1), (0, 3, 2)]
        self.assertEqual(shares(basis, (1, 2, 1)), [1, 0])
        self.assertEqual(shares(basis, (0, 3, 2)), [0, 1])
        self.assertEqual(shares(basis, (2, 7, 4)), [2, 1])
        self.assertEqual(shares(basis, (-2, -1, 0)), [-2, 1])
        self.assertEqual(shares(basis, (2, 1, 0)), [2, -1])
        self.assertEqual(shares([(2, 1)], (-6, -3)), [-3])

    def test_weights_that_are_no_sum(self):
        basis = [(1, 2, 1), (0, 3, 2)]
        for weights in ((0, 1, 0), (0, 1, 1), (0, 3, 1), (0, 0, 1), (1, 2, 2), (2, 6, 4), (0, 6, 2), (-1, -2, 1)):
            self.assertIsNone(shares(basis, weights))
        self.assertIsNone(shares([(2, 1)], (1, 0)))
        self.assertIsNone(shares([(2, 2)], (1, 1)))
        self.assertIsNone(shares([(2, 2)], (-3, -3)))
        self.assertIsNone(shares([(0, 1)], (1, 0)))
        self.assertIsNone(shares([(0, 1)], (-1, 1)))

    def test_noughts_alone(self):
        dice = random.Random(111)
        for each in range(200):
            many = dice.randint(1, 6)
            basis = some_form(dice, many, dice.choice((1, 3, HUGE)))
            self.assertEqual(shares(basis, (0,) * many), [0] * len(basis))

    def test_the_empty_list(self):
        for many in range(1, 7):
            self.assertEqual(shares([], (0,) * many), [])
            for number in (1, -1, HUGE):
                for place in range(many):
                    weights = tuple(number if at == place else 0 for at in range(many))
                    self.assertIsNone(shares([], weights))

    def test_each_of_the_list_is_itself_once(self):
        for moves, many in made_moves(112, 60):
            told = balances(moves, many)
            for number, weights in enumerate(told):
                self.assertEqual(shares(told, weights), [int(at == number) for at in range(len(told))])

    def test_sums_in_made_lists_of_the_form(self):
        dice = random.Random(113)
        for each in range(600):
            many = dice.randint(1, 6)
            basis = some_form(dice, many, dice.choice((1, 2, 3, 9, TOP, HUGE)))
            top = dice.choice((1, 3, TOP, HUGE))
            times = [dice.randint(-top, top) for row in basis]
            self.assertEqual(shares(basis, summed(basis, times, many)), times)

    def test_weights_near_to_sums_in_made_lists(self):
        dice = random.Random(114)
        seen = {True: 0, False: 0}
        for each in range(1500):
            many = dice.randint(1, 6)
            basis = some_form(dice, many, dice.choice((1, 2, 3, HUGE)))
            weights = list(summed(basis, [dice.randint(-3, 3) for row in basis], many))
            weights[dice.randrange(many)] += dice.choice((-2, -1, 0, 1, 2, 6, HUGE, -HUGE))
            times = plain_times(basis, tuple(weights))
            self.assertEqual(shares(basis, tuple(weights)), times)
            seen[times is None] += 1
        self.assertTrue(min(seen.values()) > 200, seen)

    def test_kinds(self):
        told = shares([(1, 2, 1), (0, 3, 2)], (2, 7, 4))
        self.assertIs(type(told), list)
        self.assertTrue(all(type(number) is int for number in told))
        self.assertIs(type(shares([], (0, 0))), list)


if __name__ == "__main__":
    unittest.main()
