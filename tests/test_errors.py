import unittest

from nestturn import errors
from nestturn.errors import NoOrder, NoPlan, NoProgram, NoRow, NoText, NoTurn, Tied, TooMany, TurnError

PLAIN = [NoProgram, TooMany, NoOrder, NoPlan, NoTurn, NoText, NoRow]


class Refusals(unittest.TestCase):
    def test_turn_error_stands_under_value_error(self):
        self.assertEqual(TurnError.__bases__, (ValueError,))

    def test_each_stands_straight_under_turn_error(self):
        for kind in PLAIN + [Tied]:
            self.assertEqual(kind.__bases__, (TurnError,), kind)

    def test_none_stands_under_another(self):
        kinds = PLAIN + [Tied]
        for kind in kinds:
            for other in kinds:
                self.assertEqual(issubclass(kind, other), kind is other, (kind, other))

    def test_there_are_eight_with_their_names(self):
        names = ["NoProgram", "TooMany", "NoOrder", "NoPlan", "Tied", "NoTurn", "NoText", "NoRow"]
        for name in names:
            self.assertEqual(getattr(errors, name).__name__, name)
        self.assertEqual(len(set(PLAIN + [Tied])), 8)

    def test_each_is_raised_and_taken_as_any_of_its_kinds(self):
        for kind in PLAIN:
            for taken in (kind, TurnError, ValueError):
                with self.assertRaises(taken):
                    raise kind("some words")

    def test_tied_keeps_its_pair(self):
        with self.assertRaises(TurnError) as taken:
            raise Tied((2, 7))
        self.assertIsInstance(taken.exception, ValueError)
        self.assertEqual(taken.exception.pair, (2, 7))

    def test_each_tied_has_its_own_pair(self):
        one = Tied((0, 1))
        other = Tied((3, 4))
        self.assertEqual((one.pair, other.pair), ((0, 1), (3, 4)))


if __name__ == "__main__":
    unittest.main()
