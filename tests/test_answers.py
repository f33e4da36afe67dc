"""Point 2: nothing handed in is changed, told lists are the asker's own, the same is told when asked again."""

import copy
import unittest

from tokenmoor.backs import cover, enough, never, walled
from tokenmoor.balances import balances, shares
from tokenmoor.bases import both, either, is_shut, least, lifted, source, step_back
from tokenmoor.ceilings import ceiling, level
from tokenmoor.climbs import climb, lifts_of, peak, row_between, way
from tokenmoor.crowns import cap_able, cap_after, crown, growth, is_crown, raised, tops, under
from tokenmoor.desk import Desk
from tokenmoor.ends import again, end_of, is_end, kept
from tokenmoor.floods import bounded, flood, row_to
from tokenmoor.moors import able, after, change, covers, is_count, moor
from tokenmoor.reasons import reached
from tokenmoor.sets import (
    breaks_dry, breaks_wet, greatest_dry, greatest_wet, is_dry, is_wet, least_dry, least_wet, turned)
from tokenmoor.texts import read, shown
from tokenmoor.walks import hurdle, run, stands_of, stride, sum_of
from tokenmoor.weights import is_balance, is_falling, weigh

MOOR = ((2, 0), (((1, 0), (0, 1)), ((0, 1), (2, 0))))
MOVES = MOOR[1]
# TREE is the growth of TALL: its first two places grow, the third one stays as it is.
TALL = ((1, 0, 3), (((1, 0, 0), (0, 1, 0)), ((0, 1, 0), (2, 0, 0))))
TREE = [((1, 0, 3), None, None), ((0, 1, 3), 0, 0), ((None, 0, 3), 1, 1), ((None, None, 3), 2, 0)]
# ROWS are the flood of LOW, and FORM is a list of weights of the form in which balances are told.
LOW = ((2, 0), MOVES[:1])
ROWS = [((2, 0), None, None), ((1, 1), 0, 0), ((0, 2), 1, 0)]
FORM = [(1, 2, 1), (0, 3, 2)]
# Counters go to and fro; or place 0 is filled without end, while at place 1 one counter is made of two.
ROUND = ((2, 0), (((1, 0), (0, 1)), ((0, 1), (1, 0))))
FILLED = ((0, 3), (((0, 0), (1, 0)), ((0, 2), (0, 1))))
TEXT = "place a 2; place b 0; move fold takes 1 a puts 1 b; move back takes 1 b puts 2 a"
CAPS = [(2, None), (1, 0), (None, 0), (2, None), (0, 7)]

# Lists that are no bases yet (unsorted, with stands alike or covered) as well as such that are.
QUESTIONS = (
    (is_count, [3]),
    (moor, [[2, 0], [[[1, 0], [0, 1]], ([0, 1], (2, 0))]]),
    (moor, [(2, 0), MOVES]),
    (covers, [(2, 0), (1, 0)]),
    (able, [(2, 0), MOVES[0]]),
    (after, [(2, 0), MOVES[0]]),
    (change, [MOVES[0]]),
    (run, [MOOR, (2, 0), [0, 1, 0]]),
    (stands_of, [MOOR, (2, 0), [0, 1, 0]]),
    (stands_of, [MOOR, (2, 0), []]),
    (hurdle, [MOOR, [1, 0, 1]]),
    (sum_of, [MOOR, [1, 0, 1]]),
    (stride, [MOOR, (2, 0), [([0], 2), ([], 5), ([1], 0), ([1, 0], 10 ** 30)]]),
    (least, [[(3, 3), (2, 0), (0, 1), (2, 0)]]),
    (least, [[(0, 1), (2, 0)]]),
    (least, [[]]),
    (lifted, [(1, 1), [(3, 3), (2, 0), (0, 1), (2, 0)]]),
    (source, [(1, 1), MOVES[1]]),
    (step_back, [MOVES, [(3, 3), (2, 0), (0, 1), (2, 0)]]),
    (step_back, [MOVES, [(0, 0)]]),
    (step_back, [(), [(0, 0)]]),
    (step_back, [MOVES, []]),
    (is_shut, [MOVES, [(3, 3), (2, 0), (0, 1), (2, 0)]]),
    (either, [[(3, 3), (2, 0)], [(0, 1), (2, 0)]]),
    (either, [[], [(0, 1)]]),
    (either, [[(0, 1)], []]),
    (both, [[(3, 3), (2, 0)], [(0, 1), (2, 0)]]),
    (both, [[(0, 0)], [(0, 1)]]),
    (both, [[], [(0, 1)]]),
    (enough, [MOVES, (0, 2), 30]),
    (enough, [MOVES, (0, 2), 1]),
    (enough, [(), (0, 2), 1]),
    (cover, [MOOR, (0, 5), 30]),
    (cover, [MOOR, (2, 0), 30]),
    (cover, [MOOR, (0, 5), 1]),
    (cover, [((0, 0), MOVES), (0, 2), 30]),
    (walled, [((0, 0), MOVES), (0, 2), [(3, 3), (1, 0), (0, 1), (1, 0)]]),
    (never, [MOOR, 30]),
    (never, [((0, 0), MOVES + (((0, 9), (0, 0)),)), 3]),
    (under, [(2, None), (3, None)]),
    (cap_able, [(2, None), MOVES[1]]),
    (cap_after, [(2, None), MOVES[1]]),
    (raised, [(2, None), (1, 0)]),
    (raised, [(2, None), (3, 0)]),
    (tops, [CAPS]),
    (tops, [[(0, 7), (2, None)]]),
    (tops, [[]]),
    (growth, [TALL, 30]),
    (growth, [TALL, 3]),
    (growth, [((2,), ()), 1]),
    (crown, [TALL, 30]),
    (crown, [TALL, 3]),
    (is_crown, [MOOR, CAPS]),
    (way, [TREE, 3]),
    (way, [TREE, 0]),
    (row_between, [TREE, 0, 3]),
    (row_between, [TREE, 3, 3]),
    (lifts_of, [TALL, TREE, 3]),
    (lifts_of, [TALL, TREE, 0]),
    (climb, [TALL, TREE, 3, 10 ** 60 - 1]),
    (climb, [TALL, TREE, 3, 0]),
    (climb, [TALL, TREE, 0, 5]),
    (peak, [TALL, 1, 30]),
    (peak, [TALL, 2, 30]),
    (peak, [TALL, 2, 1]),
    (weigh, [(2, -1), (3, 4)]),
    (is_balance, [MOVES, (2, 1)]),
    (is_falling, [MOVES, (2, 1)]),
    (balances, [MOVES[:1], 2]),
    (balances, [MOVES, 2]),
    (balances, [(), 2]),
    (shares, [FORM, (2, 7, 4)]),
    (shares, [FORM, (2, 7, 5)]),
    (shares, [[], (0, 0)]),
    (ceiling, [MOVES, 1, 2]),
    (ceiling, [MOVES[:1], 1, 2]),
    (level, [MOVES, 2]),
    (level, [MOVES[:1], 2]),
    (is_dry, [MOVES, (0, 1)]),
    (is_wet, [MOVES, (0, 1)]),
    (breaks_dry, [MOVES, (1,)]),
    (breaks_wet, [MOVES, (0,)]),
    (greatest_dry, [MOVES, (0, 1)]),
    (greatest_wet, [MOVES[:1], (0, 1)]),
    (least_dry, [MOVES, 2]),
    (least_dry, [(), 2]),
    (least_wet, [MOVES, 2]),
    (least_wet, [(), 2]),
    (turned, [MOVES]),
    (flood, [LOW, 30]),
    (flood, [LOW, 1]),
    (row_to, [ROWS, 2]),
    (row_to, [ROWS, 0]),
    (bounded, [MOOR, 30]),
    (bounded, [MOOR, 2]),
    (bounded, [LOW, 30]),
    (bounded, [LOW, 2]),
    (is_end, [LOW, (0, 2)]),
    (kept, [MOOR]),
    (kept, [LOW]),
    (kept, [((0,), (((0,), (1,)),))]),
    (end_of, [LOW, 30]),
    (end_of, [LOW, 2]),
    (end_of, [ROUND, 30]),
    (end_of, [ROUND, 2]),
    (end_of, [FILLED, 30]),
    (again, [LOW, 0, 30]),
    (again, [((0, 0), MOVES), 0, 30]),
    (again, [ROUND, 0, 30]),
    (again, [ROUND, 0, 2]),
    (again, [ROUND, 0, 1]),
    (reached, [LOW, (1, 1), 30]),
    (reached, [LOW, (2, 0), 30]),
    (reached, [LOW, (3, 0), 30]),
    (reached, [LOW, (3, 0), 2]),
    (reached, [((0, 0), (((0, 0), (1, 0)), ((0, 1), (0, 2)))), (0, 1), 30]),
    (reached, [FILLED, (0, 0), 30]),
    (reached, [FILLED, (0, 5), 30]),
    (reached, [FILLED, (40, 1), 30]),
    (read, [TEXT]),
    (read, ["place a 2"]),
    (shown, [MOOR, ["a", "b"], ["fold", "back"]]),
    (shown, [((2, 0), ()), ["a", "b"], []]),
)


def spoil(told):
    """Changes each list in what was told; tells how many there were."""
    if not isinstance(told, (list, tuple)):
        return 0
    spoiled = sum(spoil(thing) for thing in told)
    if isinstance(told, list):
        told.append("mine")
        told.reverse()
        return spoiled + 1
    return spoiled


class Answers(unittest.TestCase):
    def test_nothing_that_is_handed_in_is_changed(self):
        for call, handed in QUESTIONS:
            given = copy.deepcopy(handed)
            call(*given)
            self.assertEqual(given, handed, call)

    def test_the_same_is_told_when_asked_again(self):
        for call, handed in QUESTIONS:
            first = call(*copy.deepcopy(handed))
            for other, things in QUESTIONS:
                other(*copy.deepcopy(things))
            self.assertEqual(call(*copy.deepcopy(handed)), first, call)

    def test_a_told_list_changed_by_the_asker_changes_nothing_else(self):
        asked = 0
        for call, handed in QUESTIONS:
            given = copy.deepcopy(handed)
            told = call(*given)
            kept = copy.deepcopy(told)
            if spoil(told) > 0:
                asked += 1
                self.assertEqual(given, handed, call)
                self.assertEqual(call(*given), kept, call)
        self.assertTrue(asked > 60, asked)

    def test_a_told_list_is_told_once(self):
        # Two lists of one answer are two: each changes by itself.
        told = climb(TALL, TREE, 3, 9)
        self.assertTrue(len(told) > 2)
        for row, times in told:
            kept = copy.deepcopy(told)
            row.append(row[0])
            self.assertEqual([one == other for one, other in zip(told, kept)].count(False), 1)

    def test_the_two_rows_of_a_lift_are_two(self):
        told = bounded(((1, 0), (((1, 0), (0, 1)), ((0, 1), (0, 2)))), 30)
        self.assertEqual(told, ("lift", [0], [1]))
        told[1].append(7)
        self.assertEqual(told, ("lift", [0, 7], [1]))

    def test_what_is_asked_later_changes_no_told_list(self):
        for call, handed in QUESTIONS:
            given = copy.deepcopy(handed)
            told = call(*given)
            kept = copy.deepcopy(told)
            again = call(*given)
            for thing in given:
                if isinstance(thing, list):
                    thing.clear()
            spoil(again)
            self.assertEqual(told, kept, call)

    def test_the_two_lists_of_a_lost_move_are_two(self):
        told = again(((0, 0), MOVES[:1]), 0, 30)
        self.assertEqual(told, ("dies", [], [(1, 0)]))
        told[1].append(7)
        self.assertEqual(told, ("dies", [7], [(1, 0)]))
        told[2].append(7)
        self.assertEqual(again(((0, 0), MOVES[:1]), 0, 30), ("dies", [], [(1, 0)]))

    def test_the_two_lists_of_names_are_two(self):
        told = read("place a 1; move a takes puts")
        self.assertEqual(told[1:], (["a"], ["a"]))
        told[1].append("b")
        self.assertEqual(told[1:], (["a", "b"], ["a"]))

    def test_the_lists_of_names_handed_in_may_be_changed_behind_it(self):
        places, moves = ["a", "b"], ["fold", "back"]
        self.assertEqual(shown(MOOR, places, moves), TEXT)
        places[0] = "z"
        moves.reverse()
        self.assertEqual(shown(MOOR, ["a", "b"], ["fold", "back"]), TEXT)
        self.assertEqual(read(TEXT)[1:], (["a", "b"], ["fold", "back"]))

    def test_lists_told_elsewhere_don_t_change_a_desk(self):
        desk = Desk()
        desk.say("moor " + TEXT)
        rows = ("now", "show", "cover 3 1", "bounded", "end", "again fold", "reached 2 1", "dry", "balances")
        first = [desk.say(row) for row in rows]
        for call, handed in QUESTIONS:
            spoil(call(*copy.deepcopy(handed)))
        self.assertEqual([desk.say(row) for row in rows], first)

    def test_the_growth_handed_in_here_is_the_one_that_is_told(self):
        self.assertEqual(growth(TALL, 30), TREE)

    def test_the_flood_handed_in_here_is_the_one_that_is_told(self):
        self.assertEqual(flood(LOW, 30), (ROWS, True))


if __name__ == "__main__":
    unittest.main()
