import unittest

from tokenmoor.errors import MoorError, NoMoor, NoName, NoRow, NoText, Stuck

REFUSALS = (NoMoor, Stuck, NoText, NoName, NoRow)


class Order(unittest.TestCase):
    def test_any_refusal_stands_right_under_value_error(self):
        self.assertEqual(MoorError.__bases__, (ValueError,))

    def test_each_refusal_stands_right_under_moor_error(self):
        for refusal in REFUSALS:
            self.assertEqual(refusal.__bases__, (MoorError,))

    def test_none_stands_under_another(self):
        for one in REFUSALS:
            for other in REFUSALS:
                self.assertEqual(issubclass(one, other), one is other)

    def test_they_can_be_raised_with_words_of_their_own(self):
        for refusal in (MoorError, NoMoor, NoText, NoName, NoRow):
            with self.assertRaises(refusal):
                raise refusal("words")


class At(unittest.TestCase):
    def test_stuck_has_its_field_when_it_is_made(self):
        for at in (0, 1, 299, 10 ** 300):
            self.assertEqual(Stuck(at).at, at)

    def test_stuck_takes_at_by_its_name(self):
        self.assertEqual(Stuck(at=3).at, 3)

    def test_one_does_not_change_another(self):
        one, other = Stuck(1), Stuck(2)
        self.assertEqual((one.at, other.at), (1, 2))

    def test_stuck_needs_its_at(self):
        with self.assertRaises(TypeError):
            Stuck()


if __name__ == "__main__":
    unittest.main()
