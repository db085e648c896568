"""The interface's errors: eight refusals, each straight under TurnError."""

import unittest

from tests.samples import REFUSALS
from turnnest import errors


class ErrorsTest(unittest.TestCase):
    def test_turn_error_stands_under_value_error(self):
        self.assertEqual(errors.TurnError.__bases__, (ValueError,))

    def test_the_eight_names(self):
        names = [refusal.__name__ for refusal in REFUSALS]
        self.assertEqual(
            names, ["NoOrder", "NoWords", "NoNest", "NoTurn", "NoNumber", "TooMany", "NoText", "NoRow"]
        )

    def test_each_refusal_stands_straight_under_turn_error(self):
        for refusal in REFUSALS:
            self.assertEqual(refusal.__bases__, (errors.TurnError,))

    def test_each_is_taken_by_its_own_class_and_no_other_of_the_eight(self):
        for refusal in REFUSALS:
            for taker in REFUSALS + (errors.TurnError, ValueError):
                with self.subTest(refusal=refusal, taker=taker):
                    taken = False
                    try:
                        raise refusal("refused")
                    except taker:
                        taken = True
                    except Exception:
                        pass
                    self.assertEqual(taken, taker in (refusal, errors.TurnError, ValueError))


if __name__ == "__main__":
    unittest.main()
