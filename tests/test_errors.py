import unittest

from dampspells.base import errors

PLAIN = ("BadRatio BadLacquer BadKind BadWeather BadHour BadNumber BadRow BadSteps BadHabit BadPrice "
         "BadDiary BadReport TooLarge NoWorld").split()
TELLING = {"BadText": "at", "Unsound": "kind", "Strange": "hour", "Spoilt": "hour", "Clash": "hour", "Refused": "why"}


class Errors(unittest.TestCase):
    def test_base_class(self):
        self.assertEqual(errors.DampError.__bases__, (ValueError,))

    def test_all_stand_directly_under_the_base_class(self):
        for name in [*PLAIN, *TELLING]:
            with self.subTest(name):
                self.assertEqual(getattr(errors, name).__bases__, (errors.DampError,))

    def test_plain_ones_take_a_message(self):
        for name in PLAIN:
            with self.subTest(name):
                error = getattr(errors, name)("some words")
                self.assertEqual(str(error), "some words")

    def test_the_others_take_just_their_value(self):
        values = {"at": (0, 7), "kind": ((2, 4), (16, 120)), "hour": (1, 200), "why": ("early", "")}
        for name, attribute in TELLING.items():
            for value in values[attribute]:
                with self.subTest(name, value=value):
                    error = getattr(errors, name)(value)
                    self.assertEqual(getattr(error, attribute), value)
                    self.assertIsInstance(str(error), str)

    def test_they_are_caught_as_value_errors(self):
        for name in PLAIN:
            with self.subTest(name), self.assertRaises(ValueError):
                raise getattr(errors, name)("some words")


if __name__ == "__main__":
    unittest.main()
