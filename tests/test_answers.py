"""Point 2: nothing handed in is changed, told lists are the asker's own, the same is told when asked again."""

import copy
import unittest

from tokenmoor.bases import both, either, is_shut, least, lifted, source, step_back
from tokenmoor.moors import able, after, change, covers, is_count, moor
from tokenmoor.walks import hurdle, run, stands_of, stride, sum_of

MOOR = ((2, 0), (((1, 0), (0, 1)), ((0, 1), (2, 0))))
MOVES = MOOR[1]

# Lists that are no bases yet (unsorted, with stands alike or covered) as well as such that are.
QUESTIONS = (
    (is_count, [3]),
    (moor, [[2, 0], [[[1, 0], [0, 1]], ([0, 1], (2, 0))]]),
    (moor, [(2, 0), MOVES]),
    (covers, [(2, 0), (1, 0)]),
    (able, [(2, 0), MOVES[0]]),
    (after, [(2, 0), MOVES[0]]),
    (change, [MOVES[0]]),
    (run, [MOOR, (2, 0), [0, 1, 0]]),
    (stands_of, [MOOR, (2, 0), [0, 1, 0]]),
    (stands_of, [MOOR, (2, 0), []]),
    (hurdle, [MOOR, [1, 0, 1]]),
    (sum_of, [MOOR, [1, 0, 1]]),
    (stride, [MOOR, (2, 0), [([0], 2), ([], 5), ([1], 0), ([1, 0], 10 ** 30)]]),
    (least, [[(3, 3), (2, 0), (0, 1), (2, 0)]]),
    (least, [[(0, 1), (2, 0)]]),
    (least, [[]]),
    (lifted, [(1, 1), [(3, 3), (2, 0), (0, 1), (2, 0)]]),
    (source, [(1, 1), MOVES[1]]),
    (step_back, [MOVES, [(3, 3), (2, 0), (0, 1), (2, 0)]]),
    (step_back, [MOVES, [(0, 0)]]),
    (step_back, [(), [(0, 0)]]),
    (step_back, [MOVES, []]),
    (is_shut, [MOVES, [(3, 3), (2, 0), (0, 1), (2, 0)]]),
    (either, [[(3, 3), (2, 0)], [(0, 1), (2, 0)]]),
    (either, [[], [(0, 1)]]),
    (either, [[(0, 1)], []]),
    (both, [[(3, 3), (2, 0)], [(0, 1), (2, 0)]]),
    (both, [[(0, 0)], [(0, 1)]]),
    (both, [[], [(0, 1)]]),
)


class Answers(unittest.TestCase):
    def test_nothing_that_is_handed_in_is_changed(self):
        for call, handed in QUESTIONS:
            given = copy.deepcopy(handed)
            call(*given)
            self.assertEqual(given, handed, call)

    def test_the_same_is_told_when_asked_again(self):
        for call, handed in QUESTIONS:
            first = call(*copy.deepcopy(handed))
            for other, things in QUESTIONS:
                other(*copy.deepcopy(things))
            self.assertEqual(call(*copy.deepcopy(handed)), first, call)

    def test_a_told_list_changed_by_the_asker_changes_nothing_else(self):
        asked = 0
        for call, handed in QUESTIONS:
            given = copy.deepcopy(handed)
            told = call(*given)
            if isinstance(told, list):
                asked += 1
                kept = list(told)
                told.append("mine")
                told.reverse()
                self.assertEqual(given, handed, call)
                self.assertEqual(call(*given), kept, call)
        self.assertTrue(asked > 10)

    def test_what_is_asked_later_changes_no_told_list(self):
        for call, handed in QUESTIONS:
            given = copy.deepcopy(handed)
            told = call(*given)
            kept = copy.deepcopy(told)
            again = call(*given)
            for thing in given:
                if isinstance(thing, list):
                    thing.clear()
            if isinstance(again, list):
                again.clear()
            self.assertEqual(told, kept, call)


if __name__ == "__main__":
    unittest.main()
