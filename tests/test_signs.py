"""Points 2, 6, 7 and 8: the class Signs."""

import operator
import unittest

from by_hand import ALL_SIGNS, FIELD, FORM, MARK, MAYBE, NO_SIGN_TEXTS, NUMBERS, PLAIN_OBJECTS
from townlines.errors import BadSigns
from townlines.kinds import Kind
from townlines.signs import Signs

LETTERS = "abcdefghijklmnopqrstuvwxyz"
LONG = "hello, world! " * 107 + "by"
TEXTS = ["", "a", "ab", "ba", "bcd", "aabbaa", "zyx~ !", " ", "~", "!\"#$&'", ALL_SIGNS, ALL_SIGNS[::-1], LONG]
OPERATORS = {
    "or": (operator.or_, set.union),
    "and": (operator.and_, set.intersection),
    "sub": (operator.sub, set.difference),
}


def spell(signs):
    """The signs of a set of strings in ascending order."""
    return "".join(sorted(signs))


class Making(unittest.TestCase):
    def test_long_is_long(self):
        self.assertEqual(len(LONG), 1500)

    def test_the_signs_that_occur(self):
        for text in TEXTS:
            with self.subTest(text):
                self.assertEqual(Signs(text).spelled(), spell(set(text)))

    def test_of_any_length(self):
        self.assertEqual(Signs("ab" * 50000 + "c").spelled(), "abc")
        with self.assertRaises(BadSigns):
            Signs("ab" * 50000 + "%")

    def test_without_an_argument(self):
        self.assertEqual(Signs().spelled(), "")

    def test_by_name(self):
        self.assertEqual(Signs(text="ba").spelled(), "ab")

    def test_each_sign(self):
        self.assertEqual(len(ALL_SIGNS), 94)
        for sign in ALL_SIGNS:
            self.assertEqual(Signs(sign).spelled(), sign)

    def test_each_other_character(self):
        for code in [*range(32), 37, *range(127, 300), 0x2028, 0x10ffff]:
            for text in [chr(code), "a" + chr(code), chr(code) + "a"]:
                with self.subTest(text), self.assertRaises(BadSigns):
                    Signs(text)

    def test_strings_with_no_sign(self):
        for text in NO_SIGN_TEXTS:
            with self.subTest(text), self.assertRaises(BadSigns):
                Signs(text)

    def test_other_objects(self):
        for thing in [*PLAIN_OBJECTS, *NUMBERS, Signs("a"), Signs(), Kind.run("a")]:
            with self.subTest(thing), self.assertRaises(BadSigns):
                Signs(thing)


class Spans(unittest.TestCase):
    def test_both_ends_are_included(self):
        self.assertEqual(Signs.span("b", "e").spelled(), "bcde")
        self.assertEqual(Signs.span("c", "c").spelled(), "c")
        self.assertEqual(Signs.span(" ", "\"").spelled(), " !\"")
        self.assertEqual(Signs.span("{", "~").spelled(), "{|}~")

    def test_all_pairs(self):
        for first in ALL_SIGNS[::3]:
            for last in ALL_SIGNS:
                if first <= last:
                    expected = [sign for sign in ALL_SIGNS if first <= sign <= last]
                    self.assertEqual(Signs.span(first, last).spelled(), "".join(expected))
                else:
                    with self.assertRaises(BadSigns):
                        Signs.span(first, last)

    def test_the_percent_sign_is_no_sign(self):
        self.assertEqual(Signs.span("$", "&").spelled(), "$&")
        self.assertEqual(Signs.span(" ", "~").spelled(), ALL_SIGNS)
        for first, last in [("%", "%"), ("%", "a"), ("#", "%")]:
            with self.assertRaises(BadSigns):
                Signs.span(first, last)

    def test_wrong_ends(self):
        for thing in [*PLAIN_OBJECTS, *NUMBERS, *NO_SIGN_TEXTS, "", "ab", "aa", Signs("a"), Kind.run("a")]:
            with self.subTest(thing):
                with self.assertRaises(BadSigns):
                    Signs.span(thing, "~")
                with self.assertRaises(BadSigns):
                    Signs.span(" ", thing)
                with self.assertRaises(BadSigns):
                    Signs.span(thing, thing)

    def test_by_name(self):
        self.assertEqual(Signs.span(last="c", first="a").spelled(), "abc")

    def test_the_named_sets(self):
        self.assertEqual(Signs.letters().spelled(), LETTERS)
        self.assertEqual(Signs.capitals().spelled(), LETTERS.upper())
        self.assertEqual(Signs.digits().spelled(), "0123456789")

    def test_all_are_signs(self):
        for made in [Signs.span("a", "b"), Signs.letters(), Signs.capitals(), Signs.digits()]:
            self.assertIs(type(made), Signs)


class Operators(unittest.TestCase):
    def test_two_signs(self):
        for name, (sign, on_sets) in OPERATORS.items():
            for one in TEXTS:
                for two in TEXTS:
                    with self.subTest(name, one=one, two=two):
                        made = sign(Signs(one), Signs(two))
                        self.assertIs(type(made), Signs)
                        self.assertEqual(made.spelled(), spell(on_sets(set(one), set(two))))

    def test_a_string_on_either_side(self):
        for name, (sign, on_sets) in OPERATORS.items():
            for one in TEXTS:
                for two in TEXTS:
                    expected = spell(on_sets(set(one), set(two)))
                    with self.subTest(name, one=one, two=two):
                        for made in [sign(Signs(one), two), sign(one, Signs(two))]:
                            self.assertIs(type(made), Signs)
                            self.assertEqual(made.spelled(), expected)

    def test_the_operands_do_not_change(self):
        one, two = Signs("abc"), Signs("bcd")
        for sign, _ in OPERATORS.values():
            for made in [sign(one, two), sign(one, "bcd"), sign("abc", two), ~one]:
                self.assertIsNot(made, one)
                self.assertIsNot(made, two)
        self.assertEqual([one.spelled(), two.spelled()], ["abc", "bcd"])

    def test_other_operands(self):
        kinds = [Kind.run("a"), Kind.words(["a", "b"]), Kind.run(ALL_SIGNS, 0, None)]
        for name, (sign, _) in OPERATORS.items():
            for thing in [*PLAIN_OBJECTS, *NUMBERS, *NO_SIGN_TEXTS, *kinds]:
                for signs in [Signs("a"), Signs(), Signs(ALL_SIGNS)]:
                    with self.subTest(name, thing=thing):
                        with self.assertRaises(BadSigns):
                            sign(signs, thing)
                        with self.assertRaises(BadSigns):
                            sign(thing, signs)

    def test_inversion(self):
        for text in TEXTS:
            self.assertIs(type(~Signs(text)), Signs)
            self.assertEqual((~Signs(text)).spelled(), spell(set(ALL_SIGNS) - set(text)))
            self.assertEqual(~~Signs(text), Signs(text))

    def test_union_in_place(self):
        for other in ["cd", Signs("cd"), "ddc"]:
            old = held = Signs("ab")
            held |= other
            self.assertIs(type(held), Signs)
            self.assertEqual(held.spelled(), "abcd")
            self.assertIsNot(held, old)
            self.assertEqual(old.spelled(), "ab")

    def test_union_in_place_leaves_the_other_one(self):
        other = Signs("cd")
        held = Signs("ab")
        held |= other
        self.assertEqual(other.spelled(), "cd")
        text = "ab"
        text |= other
        self.assertEqual(text, Signs("abcd"))
        self.assertEqual(other.spelled(), "cd")

    def test_union_in_place_of_another_object(self):
        for thing in [FIELD, MARK, MAYBE, FORM, Kind.run("a")]:
            with self.subTest(thing), self.assertRaises(BadSigns):
                thing |= Signs("a")

    def test_union_in_place_with_other_operands(self):
        for thing in [*PLAIN_OBJECTS, *NUMBERS, *NO_SIGN_TEXTS, Kind.run("a")]:
            held = old = Signs("ab")
            with self.subTest(thing), self.assertRaises(BadSigns):
                held |= thing
            self.assertIs(held, old)
            self.assertEqual(old.spelled(), "ab")

    def test_union_in_place_with_each_text(self):
        for text in TEXTS:
            held = Signs("mn")
            held |= text
            self.assertEqual(held.spelled(), spell(set("mn" + text)))

    def test_the_example(self):
        self.assertEqual((Signs("cab") | "d" - Signs("e")).spelled(), "abcd")


class Asking(unittest.TestCase):
    def test_equal_if_the_same_signs(self):
        for one in TEXTS:
            for two in TEXTS:
                same = set(one) == set(two)
                self.assertIs(Signs(one) == Signs(two), same)
                self.assertIs(Signs(one) != Signs(two), not same)

    def test_equal_to_no_other_object(self):
        kinds = [Kind.run("a"), Kind.words(["a"])]
        for thing in [*PLAIN_OBJECTS, *NUMBERS, *NO_SIGN_TEXTS, *TEXTS, *kinds]:
            for signs in [Signs(), Signs("a"), Signs("ab")]:
                with self.subTest(thing):
                    self.assertIs(signs == thing, False)
                    self.assertIs(thing == signs, False)
                    self.assertIs(signs != thing, True)

    def test_length(self):
        for text in TEXTS:
            self.assertEqual(len(Signs(text)), len(set(text)))
        self.assertEqual(len(~Signs()), 94)

    def test_truth(self):
        for text in TEXTS:
            self.assertIs(bool(Signs(text)), text != "")
        self.assertIs(bool(Signs("a") - "a"), False)

    def test_membership_of_signs(self):
        for text in TEXTS:
            for sign in ALL_SIGNS:
                self.assertIs(sign in Signs(text), sign in set(text))

    def test_membership_of_other_objects(self):
        longer = ["", "ab", "bc", "abc", "aa", ALL_SIGNS]
        others = [Signs("a"), Signs(), Signs(ALL_SIGNS), Kind.run("a")]
        for thing in [*PLAIN_OBJECTS, *NUMBERS, *NO_SIGN_TEXTS, *longer, *others]:
            for signs in [Signs(), Signs("abc"), Signs(ALL_SIGNS)]:
                with self.subTest(thing):
                    self.assertIs(thing in signs, False)

    def test_within(self):
        for one in TEXTS:
            for two in TEXTS:
                expected = set(one) <= set(two)
                self.assertIs(Signs(one).within(Signs(two)), expected)
                self.assertIs(Signs(one).within(two), expected)

    def test_within_by_name(self):
        self.assertIs(Signs("a").within(other="ab"), True)

    def test_within_other_objects(self):
        for thing in [*PLAIN_OBJECTS, *NUMBERS, *NO_SIGN_TEXTS, Kind.run("a")]:
            for signs in [Signs(), Signs("a"), Signs(ALL_SIGNS)]:
                with self.subTest(thing), self.assertRaises(BadSigns):
                    signs.within(thing)

    def test_least(self):
        for text in TEXTS:
            if text != "":
                self.assertEqual(Signs(text).least(), min(text))
        self.assertEqual(Signs("b A").least(), " ")
        self.assertEqual(Signs("aZ").least(), "Z")

    def test_least_of_none(self):
        for signs in [Signs(), Signs(""), Signs("a") & "b", ~Signs(ALL_SIGNS)]:
            with self.assertRaises(BadSigns):
                signs.least()

    def test_spelled(self):
        self.assertEqual(Signs("z9 Aa~!").spelled(), " !9Aaz~")
        self.assertEqual((~Signs()).spelled(), ALL_SIGNS)
        self.assertEqual(Signs().spelled(), "")

    def test_the_methods_stand_in_the_class(self):
        names = ["span", "letters", "capitals", "digits", "within", "least", "spelled", "__or__", "__and__",
                 "__sub__", "__invert__", "__eq__", "__contains__", "__len__", "__bool__"]
        for name in names:
            self.assertIn(name, vars(Signs))
        self.assertEqual(Signs.__module__, "townlines.signs")


if __name__ == "__main__":
    unittest.main()
