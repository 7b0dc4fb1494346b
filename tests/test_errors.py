"""Point 5: the error classes."""

import unittest

from townlines import errors
from townlines.kinds import Kind
from townlines.signs import Signs

WITHOUT = ["BadSigns", "BadText", "BadKind", "NoReading", "TooMany", "TooLarge"]
WITH = {"BadItem": "at", "BadForm": "at", "BadName": "name", "Unknown": "name", "Missing": "name",
        "BadValue": "name", "NotSingle": "text", "NotWithin": "text", "NoForm": "name",
        "BadNumber": "number", "TooWide": "line", "BadShort": "name"}
NAMES = [*WITHOUT, *WITH]


def error_class(name):
    return getattr(errors, name)


class ErrorClasses(unittest.TestCase):
    def test_there_are_eighteen(self):
        self.assertEqual(len(NAMES), 18)
        self.assertEqual(len({error_class(name) for name in NAMES}), 18)

    def test_all_are_defined_in_the_module(self):
        for name in ["TownError", *NAMES]:
            self.assertIsInstance(error_class(name), type)
            self.assertEqual(error_class(name).__module__, "townlines.errors")
            self.assertEqual(error_class(name).__name__, name)

    def test_town_error_is_under_value_error(self):
        self.assertEqual(errors.TownError.__bases__, (ValueError,))

    def test_each_is_directly_under_town_error(self):
        for name in NAMES:
            with self.subTest(name):
                self.assertEqual(error_class(name).__bases__, (errors.TownError,))
                self.assertTrue(issubclass(error_class(name), ValueError))

    def test_none_is_under_another_one(self):
        for name in NAMES:
            for other in NAMES:
                self.assertEqual(issubclass(error_class(name), error_class(other)), name == other, (name, other))

    def test_town_error_catches_each(self):
        for name in WITHOUT:
            with self.assertRaises(errors.TownError):
                raise error_class(name)()
        for name in WITH:
            with self.assertRaises(errors.TownError):
                raise error_class(name)(None)

    def test_town_error_without_arguments(self):
        self.assertIsInstance(errors.TownError(), ValueError)


class ErrorAttributes(unittest.TestCase):
    def objects(self):
        return [None, True, False, 0, -1, 10 ** 30, "", "a", "%\n", [], ["a"], (), ("a", [1]), {}, {"a": [1]},
                Signs("ab"), Kind.run("a"), errors.BadSigns(), errors.BadName("b"), object()]

    def test_the_attribute_holds_the_very_object(self):
        for name, attribute in WITH.items():
            for thing in self.objects():
                with self.subTest(name, thing=thing):
                    self.assertIs(getattr(error_class(name)(thing), attribute), thing)

    def test_the_argument_may_be_passed_by_its_name(self):
        for name, attribute in WITH.items():
            for thing in self.objects():
                with self.subTest(name, thing=thing):
                    self.assertIs(getattr(error_class(name)(**{attribute: thing}), attribute), thing)

    def test_a_caught_error_holds_it_too(self):
        for name, attribute in WITH.items():
            thing = ["a"]
            with self.assertRaises(error_class(name)) as caught:
                raise error_class(name)(thing)
            self.assertIs(getattr(caught.exception, attribute), thing)

    def test_each_object_has_its_own_attribute(self):
        for name, attribute in WITH.items():
            first, second = error_class(name)(["a"]), error_class(name)(["b"])
            self.assertEqual([getattr(first, attribute), getattr(second, attribute)], [["a"], ["b"]])


if __name__ == "__main__":
    unittest.main()
