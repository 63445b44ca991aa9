"""The refusals: [0.3] and the interface."""

import unittest

from batchyard import errors

REFUSALS = (
    "NoNumber", "NoName", "NoRecords", "NoCode", "NoDeck", "NoAnswer", "NoJob", "NoSlot",
    "NoAccount", "NoVolume", "NoDrive", "NoPrinter", "NoChoices", "IsDown", "IsUp", "NoEvents",
    "NoText", "NoValue", "NoWords", "NoRoom", "TooDear", "Busy",
)


class TestErrors(unittest.TestCase):
    def test_yard_error_stands_under_value_error(self):
        self.assertTrue(issubclass(errors.YardError, ValueError))
        self.assertEqual(errors.YardError.__module__, "batchyard.errors")

    def test_each_refusal_stands_under_yard_error(self):
        for name in REFUSALS:
            with self.subTest(name=name):
                refusal = getattr(errors, name)
                self.assertEqual(refusal.__name__, name)
                self.assertEqual(refusal.__module__, "batchyard.errors")
                self.assertTrue(issubclass(refusal, errors.YardError))
                self.assertIsNot(refusal, errors.YardError)

    def test_no_refusal_stands_under_another(self):
        for low in REFUSALS:
            for high in REFUSALS:
                with self.subTest(low=low, high=high):
                    stands = issubclass(getattr(errors, low), getattr(errors, high))
                    self.assertEqual(stands, low == high)

    def test_each_can_be_raised_with_a_message_and_caught_as_any_refusal(self):
        for name in REFUSALS:
            with self.subTest(name=name):
                with self.assertRaises(errors.YardError) as caught:
                    raise getattr(errors, name)("a reason")
                self.assertEqual(str(caught.exception), "a reason")

    def test_there_is_no_other_refusal(self):
        found = [name for name, thing in vars(errors).items()
                 if isinstance(thing, type) and issubclass(thing, Exception)]
        self.assertEqual(sorted(found), sorted((*REFUSALS, "YardError")))


if __name__ == "__main__":
    unittest.main()
