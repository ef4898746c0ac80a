import unittest

from jettison import errors
from jettison.errors import (
    BadName, BadNumber, BadPaper, BadRows, JettisonError, NoDeed, NoOwner, NoPart, NoVoyage, TooMuch, Twice,
)

REFUSALS = [BadName, Twice, NoOwner, NoPart, NoVoyage, BadNumber, TooMuch, BadRows, NoDeed, BadPaper]


class ErrorsTest(unittest.TestCase):
    def test_any_refusal_is_a_value_error(self):
        self.assertTrue(issubclass(JettisonError, ValueError))

    def test_each_class_stands_under_jettison_error_and_under_no_other_one(self):
        for refusal in REFUSALS:
            self.assertEqual(refusal.__bases__, (JettisonError,))
            for other in REFUSALS:
                self.assertEqual(issubclass(refusal, other), refusal is other)

    def test_each_class_bears_its_name(self):
        self.assertEqual(len(set(REFUSALS)), 10)
        for refusal in REFUSALS:
            self.assertIs(getattr(errors, refusal.__name__), refusal)
            self.assertEqual(refusal.__module__, "jettison.errors")

    def test_a_refusal_is_taken_by_its_own_class_and_by_jettison_error(self):
        for refusal in REFUSALS:
            for taken in (refusal, JettisonError, ValueError):
                with self.assertRaises(taken):
                    raise refusal("why")

    def test_a_refusal_is_not_taken_by_another_class(self):
        with self.assertRaises(NoPart):
            try:
                raise NoPart("tea")
            except (NoOwner, NoVoyage, NoDeed):
                self.fail("another class took it")


if __name__ == "__main__":
    unittest.main()
