"""Points 9 to 13, without count_words: the class Kind."""

import random
import unittest

from by_hand import (ALL_SIGNS, NO_SIGN_TEXTS, NUMBERS, PLAIN_OBJECTS, is_word, random_kind, strings)
from townlines.errors import BadKind, BadName, BadNumber
from townlines.kinds import Kind
from townlines.signs import Signs


def places(kind):
    """The number of places as point 12 says."""
    runs = [run for runs in kind.alternatives() for run in runs]
    return sum(max(least, 1) if most is None else most for _, least, most in runs)


def distinct_words(number):
    """That many different words of one sign each."""
    return [ALL_SIGNS[at] for at in range(number)]


class Runs(unittest.TestCase):
    def test_one_alternative_of_one_run(self):
        self.assertEqual(Kind.run("ab", 2, 5).alternatives(), ((("ab", 2, 5),),))
        self.assertEqual(Kind.run("ab", 2, None).alternatives(), ((("ab", 2, None),),))

    def test_default_bounds(self):
        self.assertEqual(Kind.run("a").alternatives(), ((("a", 1, 1),),))
        self.assertEqual(Kind.run("a", 0).alternatives(), ((("a", 0, 1),),))
        self.assertEqual(Kind.run("a", most=None).alternatives(), ((("a", 1, None),),))
        self.assertEqual(Kind.run("a", most=7).alternatives(), ((("a", 1, 7),),))

    def test_by_name(self):
        self.assertEqual(Kind.run(most=3, least=2, signs="a").alternatives(), ((("a", 2, 3),),))

    def test_the_signs_ascend(self):
        self.assertEqual(Kind.run("cabbac").alternatives(), ((("abc", 1, 1),),))
        self.assertEqual(Kind.run(Signs("z a")).alternatives(), (((" az", 1, 1),),))
        self.assertEqual(Kind.run(ALL_SIGNS[::-1] * 20).alternatives(), (((ALL_SIGNS, 1, 1),),))

    def test_allowed_bounds(self):
        for least in range(41):
            self.assertEqual(Kind.run("a", least, None).alternatives(), ((("a", least, None),),))
            self.assertEqual(Kind.run("a", least, 40).alternatives(), ((("a", least, 40),),))
            for most in range(1, 41):
                if least <= most:
                    self.assertEqual(Kind.run("a", least, most).alternatives(), ((("a", least, most),),))
                else:
                    with self.assertRaises(BadKind):
                        Kind.run("a", least, most)

    def test_wrong_least(self):
        for thing in [*PLAIN_OBJECTS, -1, -40, 41, 10 ** 30, "", "1", Signs("a"), Kind.run("a")]:
            for most in [1, 40, None]:
                with self.subTest(thing, most=most), self.assertRaises(BadKind):
                    Kind.run("a", thing, most)

    def test_wrong_most(self):
        for thing in [*PLAIN_OBJECTS, 0, -1, 41, 10 ** 30, "", "1", Signs("a"), Kind.run("a")]:
            if thing is not None:
                for least in [0, 1]:
                    with self.subTest(thing, least=least), self.assertRaises(BadKind):
                        Kind.run("a", least, thing)

    def test_least_beyond_most(self):
        for least, most in [(2, 1), (40, 39), (1, 0), (0, 0)]:
            with self.assertRaises(BadKind):
                Kind.run("a", least, most)
        with self.assertRaises(BadKind):
            Kind.run("a", 2)

    def test_wrong_signs(self):
        for thing in [*PLAIN_OBJECTS, *NUMBERS, *NO_SIGN_TEXTS, "", Signs(), Signs("a") - "a", Kind.run("a")]:
            with self.subTest(thing), self.assertRaises(BadKind):
                Kind.run(thing)

    def test_a_changed_signs_does_not_matter(self):
        signs = Signs("ab")
        kind = Kind.run(signs)
        signs |= "c"
        self.assertEqual(kind.alternatives(), ((("ab", 1, 1),),))


class Words(unittest.TestCase):
    def test_one_alternative_for_each_text(self):
        self.assertEqual(Kind.words(["ba", "c"]).alternatives(), ((("b", 1, 1), ("a", 1, 1)), (("c", 1, 1),)))
        self.assertEqual(Kind.words(["aa"]).alternatives(), ((("a", 1, 1), ("a", 1, 1)),))

    def test_in_this_order(self):
        self.assertEqual(Kind.words(("b", "aa", "a")).alternatives(),
                         ((("b", 1, 1),), (("a", 1, 1), ("a", 1, 1)), (("a", 1, 1),)))

    def test_by_name(self):
        self.assertEqual(Kind.words(texts=["a"]), Kind.words(["a"]))

    def test_one_to_twenty_texts(self):
        self.assertEqual(len(Kind.words(["a"]).alternatives()), 1)
        self.assertEqual(len(Kind.words(distinct_words(20)).alternatives()), 20)
        self.assertEqual(len(Kind.words(tuple(distinct_words(20))).alternatives()), 20)
        self.assertEqual(Kind.words(["a"] * 20), Kind.words(["a"]))
        for texts in [[], (), distinct_words(21), tuple(distinct_words(21)), ["a"] * 21]:
            with self.assertRaises(BadKind):
                Kind.words(texts)

    def test_one_to_twenty_signs(self):
        self.assertEqual(Kind.words(["ab" * 10]).alternatives(), ((("a", 1, 1), ("b", 1, 1)) * 10,))
        for text in ["", "a" * 21, "ab" * 11]:
            for texts in [[text], ["a", text], [text, "a"]]:
                with self.subTest(texts), self.assertRaises(BadKind):
                    Kind.words(texts)

    def test_texts_that_are_no_strings_of_signs(self):
        for thing in [*PLAIN_OBJECTS, *NUMBERS, *NO_SIGN_TEXTS, Signs("a"), Kind.run("a")]:
            for texts in [[thing], ["a", thing], (thing, "a")]:
                with self.subTest(texts), self.assertRaises(BadKind):
                    Kind.words(texts)

    def test_no_row(self):
        for thing in ["a", "abc", "", None, True, False, 0, 1, {}, {"a": 1}, Signs("a"), Kind.run("a"), BadKind()]:
            with self.subTest(thing), self.assertRaises(BadKind):
                Kind.words(thing)

    def test_the_row_does_not_change_and_may_change(self):
        texts = ["b", "a", "b"]
        kind = Kind.words(texts)
        self.assertEqual(texts, ["b", "a", "b"])
        texts.append("c")
        texts[0] = "d"
        self.assertEqual(kind.alternatives(), ((("b", 1, 1),), (("a", 1, 1),)))


class Operators(unittest.TestCase):
    def test_plus(self):
        one = Kind.words(["a", "bc"])
        two = Kind.run("x", 0, None) | Kind.run("y", 2, 3)
        a, b, c = ("a", 1, 1), ("b", 1, 1), ("c", 1, 1)
        x, y = ("x", 0, None), ("y", 2, 3)
        self.assertEqual((one + two).alternatives(), ((a, x), (a, y), (b, c, x), (b, c, y)))
        self.assertEqual((two + one).alternatives(), ((x, a), (x, b, c), (y, a), (y, b, c)))

    def test_or(self):
        one, two = Kind.words(["a", "b"]), Kind.words(["c", "a"])
        self.assertEqual((one | two).alternatives(), ((("a", 1, 1),), (("b", 1, 1),), (("c", 1, 1),)))
        self.assertEqual((two | one).alternatives(), ((("c", 1, 1),), (("a", 1, 1),), (("b", 1, 1),)))

    def test_times(self):
        kind = Kind.words(["a", "bc"])
        wholes = [kind, kind + kind, kind + kind + kind, kind + kind + kind + kind]
        for number, whole in enumerate(wholes, 1):
            self.assertEqual(len(whole.alternatives()), 2 ** number)
            self.assertEqual((kind * number).alternatives(), whole.alternatives())
            self.assertEqual((number * kind).alternatives(), whole.alternatives())
        with self.assertRaises(BadKind):
            kind * 5

    def test_one_to_nine_times(self):
        kind = Kind.run("a", 0, 2)
        for number in range(1, 10):
            self.assertEqual((kind * number).alternatives(), ((("a", 0, 2),) * number,))
            self.assertEqual((number * kind).alternatives(), ((("a", 0, 2),) * number,))

    def test_other_numbers_of_times(self):
        kind = Kind.run("a")
        things = [*PLAIN_OBJECTS, 0, 10, -1, 11, 10 ** 30, "", "2", "ab", Signs("a"), Kind.run("b"), kind]
        for thing in things:
            with self.subTest(thing):
                with self.assertRaises(BadNumber) as caught:
                    kind * thing
                self.assertIs(caught.exception.number, thing)
                if not isinstance(thing, Kind):
                    with self.assertRaises(BadNumber) as caught:
                        thing * kind
                    self.assertIs(caught.exception.number, thing)

    def test_the_number_comes_before_the_size(self):
        large = Kind.run("a", 40, 40) * 3
        with self.assertRaises(BadNumber):
            large * 10
        with self.assertRaises(BadKind):
            large * 2

    def test_the_operands_do_not_change(self):
        one, two = Kind.words(["a", "b"]), Kind.run("c", 1, None)
        before = (one.alternatives(), two.alternatives())
        for made in [one + two, one | two, one * 2, 2 * one]:
            self.assertIs(type(made), Kind)
        self.assertEqual((one.alternatives(), two.alternatives()), before)

    def test_in_place(self):
        old = kind = Kind.run("a")
        kind += Kind.run("b")
        kind |= Kind.run("c")
        kind *= 2
        self.assertEqual(kind, (Kind.run("a") + Kind.run("b") | Kind.run("c")) * 2)
        self.assertEqual(old.alternatives(), ((("a", 1, 1),),))


class Limits(unittest.TestCase):
    def test_equal_alternatives_are_left_out(self):
        kind = Kind.words(["a", "b", "a", "c", "b"])
        self.assertEqual(kind.alternatives(), ((("a", 1, 1),), (("b", 1, 1),), (("c", 1, 1),)))
        self.assertEqual(kind | kind, kind)
        self.assertEqual((Kind.run("ab") | Kind.run("ba")).alternatives(), ((("ab", 1, 1),),))

    def test_equal_ones_that_plus_makes_are_left_out(self):
        kind = Kind.words(["a", "aa"])
        a = ("a", 1, 1)
        self.assertEqual((kind + kind).alternatives(), ((a, a), (a, a, a), (a, a, a, a)))
        self.assertEqual((kind * 3).alternatives(), ((a,) * 3, (a,) * 4, (a,) * 5, (a,) * 6))

    def test_alternatives_with_the_same_words_stay(self):
        kind = Kind.run("a", 1, 2) | Kind.words(["a", "aa"]) | Kind.run("a", 1, 2)
        self.assertEqual(kind.alternatives(), ((("a", 1, 2),), (("a", 1, 1),), (("a", 1, 1), ("a", 1, 1))))

    def test_twenty_alternatives(self):
        words = distinct_words(21)
        kind = Kind.words(words[:20])
        self.assertEqual(len(kind.alternatives()), 20)
        self.assertEqual(len((kind | Kind.words(words[:20])).alternatives()), 20)
        self.assertEqual(len((Kind.words(words[:12]) | Kind.words(words[8:20])).alternatives()), 20)
        with self.assertRaises(BadKind):
            kind | Kind.words(words[20:])
        with self.assertRaises(BadKind):
            Kind.words(words[:12]) | Kind.words(words[12:])

    def test_twenty_alternatives_by_plus(self):
        four, five = Kind.words(distinct_words(4)), Kind.words(distinct_words(5))
        self.assertEqual(len((four + five).alternatives()), 20)
        with self.assertRaises(BadKind):
            Kind.words(["a", "b", "c"]) + Kind.words(["a", "b", "c", "d", "e", "f", "g"])
        with self.assertRaises(BadKind):
            five * 2
        same = Kind.words(["a" * number for number in range(1, 7)])
        self.assertEqual(len((same + same).alternatives()), 11)

    def test_twenty_runs(self):
        ten = Kind.words(["ab" * 5])
        self.assertEqual(len((ten + ten).alternatives()[0]), 20)
        with self.assertRaises(BadKind):
            ten + ten + Kind.run("a")
        with self.assertRaises(BadKind):
            Kind.run("a", 0, None) + ten + ten
        with self.assertRaises(BadKind):
            (Kind.words(["c"]) | ten) + ten + Kind.run("a")
        seven = Kind.words(["abcabca"])
        with self.assertRaises(BadKind):
            seven * 3

    def test_many_short_alternatives_have_more_than_twenty_runs_together(self):
        kind = Kind.words([sign * 6 for sign in distinct_words(20)])
        self.assertEqual(sum(len(runs) for runs in kind.alternatives()), 120)

    def test_places_of_bounded_runs(self):
        forty = Kind.run("a", 1, 40)
        self.assertEqual(places(forty * 3), 120)
        for more in [Kind.run("b"), Kind.run("b", 0, 1), Kind.run("b", 0, None), Kind.run("b", 1, None)]:
            with self.assertRaises(BadKind):
                forty * 3 + more
            with self.assertRaises(BadKind):
                forty * 3 | more
            with self.assertRaises(BadKind):
                more + forty + forty + forty
        self.assertEqual(places(forty * 2 + Kind.run("a", 0, 39) + Kind.run("b", 0, 1)), 120)
        with self.assertRaises(BadKind):
            forty * 4

    def test_places_of_unbounded_runs(self):
        self.assertEqual(places(Kind.run("a", 40, None) * 3), 120)
        with self.assertRaises(BadKind):
            Kind.run("a", 40, None) * 3 + Kind.run("a", 0, None)
        base = Kind.run("a", 40, None) * 2 + Kind.run("a", 39, None)
        for last in [Kind.run("b", 0, None), Kind.run("b", 1, None), Kind.run("b", 0, 1)]:
            self.assertEqual(places(base + last), 120)
            self.assertEqual(places(base | last), 120)
        for last in [Kind.run("b", 2, None), Kind.run("b", 0, 2), Kind.run("b", 0, None) * 2]:
            with self.assertRaises(BadKind):
                base + last
            with self.assertRaises(BadKind):
                base | last

    def test_places_are_counted_after_the_removal(self):
        large = Kind.run("a", 1, 40) * 3
        self.assertEqual(large | large, large)
        twenty = Kind.words([sign * 20 for sign in "abcdef"])
        self.assertEqual(places(twenty), 120)
        self.assertEqual(twenty | twenty, twenty)
        self.assertEqual(Kind.words(["a" * 20] * 20), Kind.words(["a" * 20]))
        with self.assertRaises(BadKind):
            Kind.words([*[sign * 20 for sign in "abcdef"], "g"])

    def test_runs_are_never_joined(self):
        run = ("a", 1, 1)
        self.assertEqual((Kind.run("a") + Kind.run("a")).alternatives(), ((run, run),))
        self.assertNotEqual(Kind.run("a") * 2, Kind.run("a", 2, 2))
        free = Kind.run("ab", 0, None)
        self.assertEqual((free + free).alternatives(), ((("ab", 0, None), ("ab", 0, None)),))


class Equality(unittest.TestCase):
    def test_equal_if_the_alternatives_are_equal(self):
        kinds = [Kind.run("a"), Kind.run("ab"), Kind.run("a", 0, 1), Kind.run("a", 1, None), Kind.run("a", 0, None),
                 Kind.run("a", 1, 2), Kind.run("a") * 2, Kind.run("a", 2, 2), Kind.words(["a", "b"]),
                 Kind.words(["b", "a"]), Kind.words(["ab"]), Kind.words(["a", "b", "ab"])]
        for one in kinds:
            for two in kinds:
                same = one.alternatives() == two.alternatives()
                self.assertEqual(same, one is two)
                self.assertIs(one == two, same)
                self.assertIs(one != two, not same)

    def test_made_in_other_ways(self):
        self.assertIs(Kind.words(["a"]) == Kind.run("a"), True)
        self.assertIs(Kind.words(["ab"]) == Kind.run("a") + Kind.run("b"), True)
        self.assertIs(Kind.run("ba") == Kind.run(Signs("ab")), True)

    def test_equal_to_no_other_object(self):
        kind = Kind.run("a")
        for thing in [*PLAIN_OBJECTS, *NUMBERS, "", "a", Signs("a"), Signs(), kind.alternatives()]:
            with self.subTest(thing):
                self.assertIs(kind == thing, False)
                self.assertIs(thing == kind, False)
                self.assertIs(kind != thing, True)

    def test_alternatives_are_tuples(self):
        for kind in [Kind.run("a"), Kind.words(["ab", "c"]), Kind.run("a", 0, None) * 2 | Kind.run("b")]:
            self.assertIs(type(kind.alternatives()), tuple)
            for runs in kind.alternatives():
                self.assertIs(type(runs), tuple)
                for run in runs:
                    self.assertIs(type(run), tuple)
                    self.assertEqual(len(run), 3)
                    self.assertIs(type(run[0]), str)


KINDS = [
    Kind.run("a"), Kind.run("ab", 0, 3), Kind.run("ab", 2, None), Kind.run("a", 0, None), Kind.run("b", 3, 3),
    Kind.words(["a", "ab", "bab"]), Kind.words(["b", "aa"]), Kind.run("a", 0, None) + Kind.run("ab", 1, 2),
    Kind.run("ab", 0, 2) + Kind.run("a", 1, 2), Kind.run("ab", 1, None) + Kind.run("ab", 1, None),
    Kind.run("ab", 0, None) + Kind.run("a") + Kind.run("ab", 2, 2), Kind.run("a", 0, 1) * 3,
    Kind.run("a", 0, None) + Kind.run("b", 0, None) + Kind.run("a", 0, None), Kind.run("a", 2, None) * 2,
    Kind.run("ab", 0, 1) + 2 * Kind.run("b") | Kind.words(["bb", "a"]),
    Kind.run("a", 3, 4) | Kind.run("b", 0, 1) + Kind.run("a", 1, None) | Kind.run("ab", 5, 5),
    Kind.run("b", 0, 2) + Kind.run("a", 0, 1) + Kind.run("b", 2, None), Kind.run("a", 1, 2) + Kind.run("a", 0, None),
    Kind.run("ab", 0, None) + Kind.run("b") | Kind.run("a", 4, None),
    Kind.run("a", 2, 3) + Kind.run("a", 2, 3) | Kind.run("a", 0, 1),
]


class Membership(unittest.TestCase):
    def check(self, kind, signs, longest):
        for word in strings(signs, longest):
            self.assertIs(word in kind, is_word(kind, word), (kind.alternatives(), word))

    def test_short_strings(self):
        for kind in KINDS:
            self.check(kind, "ab", 6)

    def test_drawn_kinds(self):
        draw = random.Random(11)
        for _ in range(150):
            self.check(random_kind(draw, "ab", 4, 4, 3), "ab", 5)

    def test_three_signs(self):
        self.check(Kind.run("abc", 0, 2) + Kind.run("c", 1, None) | Kind.words(["cab", "b"]), "abc", 5)

    def test_each_sign(self):
        for sign in ALL_SIGNS:
            self.assertIs(sign in Kind.run(ALL_SIGNS), True)
            self.assertIs(sign in Kind.run(sign), True)
            self.assertIs(sign in Kind.run(~Signs(sign)), False)

    def test_strings_with_no_signs(self):
        for kind in [Kind.run(ALL_SIGNS, 0, None), Kind.run("a", 1, None), Kind.run(ALL_SIGNS, 1, 40)]:
            for text in [*NO_SIGN_TEXTS, "a\n", "\n"]:
                with self.subTest(text):
                    self.assertIs(text in kind, False)

    def test_at_the_bounds(self):
        kind = Kind.run("ab", 3, 40)
        for length in range(60):
            self.assertIs("ab" * length in kind, 3 <= 2 * length <= 40)
        for length in range(60):
            self.assertIs("a" * length in Kind.run("a", 40, None), length >= 40)
            self.assertIs("a" * length in Kind.run("a", 39, 40), 39 <= length <= 40)
        threes = Kind.run("a", 20, 20) | Kind.run("a", 0, 40) + Kind.run("b") + Kind.run("a", 1, 5)
        self.assertIs("a" * 40 + "b" + "a" * 5 in threes, True)
        self.assertIs("a" * 41 + "b" + "a" * 5 in threes, False)
        self.assertIs("a" * 40 + "b" + "a" * 6 in threes, False)
        self.assertIs("a" * 20 in threes, True)
        self.assertIs("a" * 21 in threes, False)

    def test_long_words(self):
        free = Kind.run("ab", 0, None) + Kind.run("a") + Kind.run("ab", 3, 3)
        for word in ["ab" * 250, "ba" * 250, "b" * 496 + "abbb", "a" * 500, "b" * 500, "b" * 497 + "abb"]:
            self.assertEqual(len(word), 500)
            self.assertIs(word in free, word[-4] == "a")
        many = Kind.run("ab", 0, None) * 9 + Kind.run("c")
        self.assertIs("ab" * 250 + "c" in many, True)
        self.assertIs("ab" * 250 in many, False)
        self.assertIs("ab" * 250 + "cc" in many, False)
        bounded = Kind.run("ab", 1, 6) * 9 + Kind.run("ab", 0, None) + Kind.run("c", 2, None)
        self.assertIs("ab" * 300 + "cc" in bounded, True)
        self.assertIs("ab" * 300 + "c" in bounded, False)
        self.assertIs("ab" * 4 + "cc" in bounded, False)
        self.assertIs("ab" * 4 + "acc" in bounded, True)

    def test_words_of_any_length(self):
        kind = Kind.run("ab", 2, None) + Kind.run("b")
        self.assertIs("ab" * 20000 in kind, True)
        self.assertIs("ba" * 20000 in kind, False)
        self.assertIs("ab" * 20000 + "%" in kind, False)

    def test_other_objects(self):
        for kind in [Kind.run("a"), Kind.run(ALL_SIGNS, 0, None), Kind.words(["a", "b"])]:
            for thing in [*PLAIN_OBJECTS, *NUMBERS, Signs("a"), Signs(), kind, Kind.run("a"), BadName("a")]:
                with self.subTest(thing):
                    self.assertIs(thing in kind, False)


class EmptyAndLeast(unittest.TestCase):
    def test_has_empty(self):
        for kind in KINDS:
            self.assertIs(kind.has_empty, is_word(kind, ""))
            self.assertIs("" in kind, kind.has_empty)
        self.assertIs(Kind.run("a", 0, 40).has_empty, True)
        self.assertIs((Kind.run("a", 0, None) * 9).has_empty, True)
        self.assertIs((Kind.run("a", 0, None) * 9 + Kind.run("b")).has_empty, False)
        self.assertIs((Kind.run("b") | Kind.run("a", 0, 2)).has_empty, True)

    def test_has_empty_is_a_property_of_the_class(self):
        self.assertIsInstance(vars(Kind)["has_empty"], property)

    def test_least(self):
        for kind in KINDS:
            words = [word for word in strings("ab", 5) if is_word(kind, word)]
            self.assertEqual(kind.least(), words[0], kind.alternatives())

    def test_least_of_drawn_kinds(self):
        draw = random.Random(12)
        for _ in range(150):
            kind = random_kind(draw, "abc", 4, 3, 2)
            words = (word for word in strings("abc", 6) if is_word(kind, word))
            self.assertEqual(kind.least(), next(words))

    def test_the_shorter_word_is_less(self):
        self.assertEqual(Kind.words(["ba", "c", "aaa"]).least(), "c")
        self.assertEqual(Kind.words(["c", "b", "~"]).least(), "b")
        self.assertEqual((Kind.run("a", 3, 3) | Kind.run("z", 2, None)).least(), "zz")

    def test_the_order_of_codes(self):
        self.assertEqual(Kind.words(["a", "Z", "~", "0"]).least(), "0")
        self.assertEqual((Kind.run("aZ", 2, 4) + Kind.run("b !")).least(), "ZZ ")
        self.assertEqual((Kind.run("b") + Kind.run("a", 0, 3)).least(), "b")

    def test_least_with_the_empty_word(self):
        self.assertEqual((Kind.run("a") | Kind.run("b", 0, None)).least(), "")

    def test_long_least(self):
        self.assertEqual((Kind.run("ba", 40, None) * 3).least(), "a" * 120)


class Interface(unittest.TestCase):
    def test_the_example(self):
        kind = Kind.run("ab", 0, 1) + 2 * Kind.run("b") | Kind.words(["bb", "a"])
        self.assertEqual(kind.alternatives(), (
            (("ab", 0, 1), ("b", 1, 1), ("b", 1, 1)), (("b", 1, 1), ("b", 1, 1)), (("a", 1, 1),)))
        self.assertEqual([kind.count_words(0), kind.count_words(2), kind.count_words(3)], [0, 1, 2])

    def test_the_methods_stand_in_the_class(self):
        names = ["run", "words", "__add__", "__or__", "__mul__", "__rmul__", "__eq__", "__contains__", "has_empty",
                 "alternatives", "least", "count_words"]
        for name in names:
            self.assertIn(name, vars(Kind))
        self.assertEqual(Kind.__module__, "townlines.kinds")


if __name__ == "__main__":
    unittest.main()
