"""Points 37 to 39: twice, is_twice, unsure and sure_names."""

import unittest

from by_hand import NUMBERS, PLAIN_OBJECTS
from forms_by_hand import FREE, ONE, TWO, random_forms, readings_by_text, small_forms
from pairs_by_hand import Steps, disagree, first_pair
from townlines import verdicts as module
from townlines.errors import Unknown
from townlines.forms import Form
from townlines.items import Field, Mark, Maybe
from townlines.kinds import Kind
from townlines.readings import readings
from townlines.signs import Signs
from townlines.verdicts import is_twice, sure_names, twice, unsure

FORMS = [*small_forms(), *random_forms(37, 260)]
LONGEST = 5


def example():
    return Form.parse("{a}{b}[{c}]", {"a": Kind.run("xy", 1, 2), "b": Kind.run("y", 1, 2), "c": Kind.words(["z"])})


def long_forms():
    """Forms whose least text with two readings is long, or whose pairs of walks go on for long."""
    kinds = {"a": Kind.run("ab", 7, 7), "b": Kind.run("ab", 3, None), "c": Kind.run("ab", 0, 4) + Kind.run("b", 2, 3),
             "d": Kind.run("a", 3, None), "e": Kind.run("ab", 1, None) + Kind.words(["aab"]),
             "f": Kind.words(["abab", "ab", "ba", "baab"]), "g": Kind.run("aA", 1, None), "h": Kind.run("bB", 2, 5)}
    spellings = ["{b}aa{a}bb{d}", "{c}{d}\n{a}", "[{f}-]{a}{e}", "{f}[{a}a]{b}\n[{c}]", "[{a}{b}]\n[{e}]", "{f}\n{f0}{f1}",
                 "{d}ba[{f}b{c}]", "[{a}[{d}[{f}]]]{c}", "{a}{f}[aba{d}]", "abba{f}[ab{c}]\n[{d}]", "{e}a{e0}", "{d}{f}{b}",
                 "{g}{h}", "[{g}]{g0}", "{h}[{g}a]\n{h0}", "{g}A[{h}b{h0}]", "[{f}[ab{e}]]{f0}{b}", "{a}[{f}]{f0}"]
    forms = []
    for spelling in spellings:
        named = dict(kinds)
        for letter in "efgh":
            for digit, other in zip("01", "xyzw"):
                spelling = spelling.replace(letter + digit, letter + other)
                named[letter + other] = kinds[letter]
        forms.append(Form.parse(spelling, named))
    return forms


class AllShortTexts(unittest.TestCase):
    @classmethod
    def setUpClass(cls):
        cls.found = [(form, readings_by_text(form, LONGEST)) for form in FORMS]

    def check(self, form, result, expected, is_longer):
        """Compare with what was found among all short texts; longer texts are found with all pairs of places."""
        if expected is None and result is not None:
            text, first, second = result
            self.assertGreater(len(text), LONGEST)
            self.assertEqual(text, is_longer(len(text)), form.spelled())
            self.assertIs(is_twice(form, result), True)
        else:
            self.assertEqual(result, expected, form.spelled())

    def test_twice(self):
        seen = [0, 0]
        for form, found in self.found:
            expected = first_pair(found, lambda row, other: True)
            result = twice(form)
            self.check(form, result, expected, Steps(form).least_twice)
            self.assertEqual(result is None, Steps(form).is_single(), form.spelled())
            seen[result is None] += 1
        self.assertGreater(min(seen), 60)

    def test_unsure(self):
        seen = {True: 0, False: 0}
        for form, found in self.found:
            for name in form.names():
                expected = first_pair(found, lambda row, other: disagree(row, other, name))
                result = unsure(form, name)
                self.check(form, result, expected, lambda longest: Steps(form).least_unsure(name, longest))
                if result is None:
                    size = 2 * (len(form.places()) + 1)
                    self.assertIsNone(Steps(form).least_unsure(name, min(size, 9)))
                seen[result is None] += 1
        self.assertGreater(min(seen.values()), 100)

    def test_sure_names(self):
        numbers = set()
        for form, _ in self.found:
            expected = [name for name in form.names() if unsure(form, name) is None]
            self.assertEqual(sure_names(form), expected, form.spelled())
            numbers.add((len(expected), len(form.names())))
        self.assertGreater(len(numbers), 6)

    def test_the_first_two_readings(self):
        for form, _ in self.found:
            if twice(form) is not None:
                text, first, second = twice(form)
                self.assertEqual(readings(form, text, most=1000)[:2], [first, second])

    def test_sure_fields_have_one_span_in_all_readings(self):
        for form, found in self.found:
            certain = sure_names(form)
            for text, rows in found.items():
                for row, _ in rows:
                    self.assertFalse(any(disagree(row, rows[0][0], name) for name in certain))


class FourSigns(unittest.TestCase):
    """Larger kinds over the signs a to d, against all pairs of places."""

    def test_least_texts(self):
        seen = {True: 0, False: 0}
        for form in random_forms(38, 150, "abcd"):
            steps = Steps(form)
            result = twice(form)
            self.assertEqual(result is None, steps.is_single(), form.spelled())
            if result is not None:
                self.assertEqual(result[0], steps.least_twice(len(result[0])), form.spelled())
                self.assertEqual(result[1:], tuple(readings(form, result[0], most=1000)[:2]))
            for name in form.names():
                found = unsure(form, name)
                seen[found is None] += 1
                self.assertEqual(found and found[0], steps.least_unsure(name, len(found[0]) if found else 5))
        self.assertGreater(min(seen.values()), 60)


class LongForms(unittest.TestCase):
    def test_least_texts(self):
        lengths = set()
        for form in long_forms():
            steps = Steps(form)
            result = twice(form)
            self.assertEqual(result is None, steps.is_single(), form.spelled())
            if result is not None:
                self.assertEqual(result[0], steps.least_twice(len(result[0])), form.spelled())
                self.assertEqual(result, (result[0], *readings(form, result[0], most=1000)[:2]))
                lengths.add(len(result[0]))
            for name in form.names():
                found = unsure(form, name)
                if found is not None:
                    text, first, second = found
                    self.assertEqual(text, steps.least_unsure(name, len(text)), (form.spelled(), name))
                    rows = [(form.owner_row(record), record) for record in readings(form, text, most=1000)]
                    self.assertEqual(found, first_pair({text: rows}, lambda row, other: disagree(row, other, name)))
        self.assertGreater(max(lengths), 9)
        self.assertGreater(len(lengths), 4)

    def test_a_text_of_200_characters(self):
        form = Form([[Mark("a" * 90), Field("a", TWO), Field("b", TWO), Mark("c" * 100)]])
        record = {"a": "a", "b": "aa"}
        self.assertEqual(twice(form), ("a" * 93 + "c" * 100, {"a": "aa", "b": "a"}, record))
        self.assertEqual(unsure(form, "b"), twice(form))

    def test_walks_that_meet_late(self):
        form = Form([[Maybe([Field("a", Kind.run("a", 11, 11)), Field("b", Kind.run("a", 40, None))])],
                     [Maybe([Field("c", Kind.run("a", 40, None) + Kind.run("a", 35, 35) + Kind.run("b", 0, 3))])]])
        self.assertEqual(twice(form), ("a" * 75, {"a": "a" * 11, "b": "a" * 64}, {"c": "a" * 75}))
        self.assertEqual(unsure(form, "c"), twice(form))

    def test_two_characters_that_only_one_place_each_stands_for(self):
        form = Form([[Maybe([Field("a", Kind.run("ax", 2, None))]), Maybe([Field("b", Kind.run("ay", 2, None))])]])
        self.assertEqual(twice(form), ("aa", {"a": "aa"}, {"b": "aa"}))
        form = Form([[Maybe([Field("a", Kind.run("Za", 2, None)), Mark("c")])], [Maybe([Field("b", Kind.run("Zac", 4, 4))])]])
        self.assertEqual(twice(form), ("ZZZc", {"a": "ZZZ"}, {"b": "ZZZc"}))


class Ordinary(unittest.TestCase):
    def test_examples(self):
        form = example()
        self.assertEqual(twice(form), ("xyy", {"a": "xy", "b": "y"}, {"a": "x", "b": "yy"}))
        self.assertEqual(unsure(form, "a"), twice(form))
        self.assertEqual(unsure(form, "b"), twice(form))
        self.assertIs(unsure(form, "c"), None)
        self.assertEqual(sure_names(form), ["c"])

    def test_forms_without_fields(self):
        for form in [Form([[Mark("a")]]), Form([[Mark("a")], [Mark("b")]])]:
            self.assertIs(twice(form), None)
            self.assertEqual(sure_names(form), [])

    def test_several_walks_of_one_reading(self):
        kind = Kind.run("a", 0, None) + Kind.run("a", 0, 3) + Kind.run("a", 1, None) | Kind.run("a", 1, 5)
        form = Form([[Field("f", kind)], [Maybe([Field("g", kind)])]])
        self.assertIs(twice(form), None)
        self.assertIs(unsure(form, "f"), None)
        self.assertEqual(sure_names(form), ["f", "g"])

    def test_a_field_that_one_reading_lacks(self):
        form = Form([[Maybe([Field("b", ONE)]), Maybe([Field("a", ONE)]), Maybe([Mark("-"), Field("c", ONE)])]])
        self.assertEqual(twice(form), ("a", {"a": "a"}, {"b": "a"}))
        self.assertEqual(unsure(form, "a"), ("a", {"a": "a"}, {"b": "a"}))
        self.assertEqual(unsure(form, "b"), ("a", {"a": "a"}, {"b": "a"}))
        self.assertIs(unsure(form, "c"), None)

    def test_a_mark_against_a_field(self):
        """The owner of a mark is less than each name."""
        form = Form([[Maybe([Mark("a"), Field("c", ONE)]), Maybe([Field("b", ONE), Field("d", ONE)])]])
        self.assertEqual(twice(form), ("aa", {"c": "a"}, {"b": "a", "d": "a"}))

    def test_the_end_of_a_field_counts(self):
        form = Form([[Field("a", TWO), Mark("a"), Field("b", TWO)]])
        self.assertEqual(unsure(form, "a"), ("aaaa", {"b": "aa", "a": "a"}, {"b": "a", "a": "aa"}))
        form = Form([[Field("a", TWO), Maybe([Field("b", TWO)])]])
        self.assertEqual(unsure(form, "a"), ("aa", {"a": "aa"}, {"a": "a", "b": "a"}))

    def test_the_least_text_may_have_line_feeds(self):
        form = Form([[Field("a", ONE)], [Maybe([Field("b", ONE)]), Maybe([Field("c", ONE)])]])
        self.assertEqual(twice(form), ("a\na", {"a": "a", "b": "a"}, {"a": "a", "c": "a"}))
        form = Form([[Maybe([Field("a", FREE)])], [Maybe([Field("b", FREE)])], [Maybe([Field("c", FREE)])]])
        self.assertEqual(twice(form), ("a", {"a": "a"}, {"b": "a"}))

    def test_the_second_reading_need_not_be_the_second_of_the_text(self):
        form = Form([[Mark("aa"), Maybe([Field("c", TWO)]), Maybe([Field("b", TWO)])]])
        self.assertEqual(twice(form), ("aaa", {"b": "a"}, {"c": "a"}))
        form = Form([[Field("a", TWO), Field("b", TWO), Field("c", Kind.run("ab", 2, 3))]])
        text, first, second = unsure(form, "a")
        self.assertEqual((text, first), ("aaaaa", {"a": "aa", "b": "a", "c": "aa"}))
        self.assertEqual(second, {"a": "a", "b": "aa", "c": "aa"})
        text, first, second = unsure(form, "c")
        self.assertEqual((text, first, second), ("aaaaa", {"a": "aa", "b": "a", "c": "aa"}, {"a": "a", "b": "a", "c": "aaa"}))
        self.assertEqual(readings(form, text)[1], {"a": "a", "b": "aa", "c": "aa"})


class IsTwice(unittest.TestCase):
    def good(self):
        return ("xyy", {"a": "xy", "b": "y"}, {"a": "x", "b": "yy"})

    def test_what_twice_returns(self):
        for form in FORMS + long_forms():
            found = twice(form)
            if found is not None:
                text, first, second = found
                self.assertIs(is_twice(form, found), True)
                self.assertIs(is_twice(form, (text, second, first)), True)
                for wrong in [(text, first, first), (text, first, dict(first)), [text, first, second], (text, first),
                              (text, first, second, second), (text + "a", first, second), (text[:-1], first, second),
                              (first, text, second), (text, first, list(second)), (text, first, {**second, "no": "a"}),
                              ((text, first, second),), (text, first, {})]:
                    self.assertIs(is_twice(form, wrong), False, wrong)

    def test_any_two_readings(self):
        form = Form([[Field("a", FREE), Field("b", FREE)]])
        found = readings(form, "abab")
        for first in found:
            for second in found:
                self.assertIs(is_twice(form, ("abab", first, second)), first != second)
        self.assertIs(is_twice(form, ("baba", found[0], found[1])), False)

    def test_spoilt_tuples(self):
        form = example()
        text, first, second = self.good()
        self.assertIs(is_twice(form, self.good()), True)
        for part in [*PLAIN_OBJECTS, *NUMBERS, "", "xyz", Signs("a"), ONE, form]:
            self.assertIs(is_twice(form, part), False)
            self.assertIs(is_twice(form, (part, first, second)), False)
            self.assertIs(is_twice(form, (text, part, second)), False)
            self.assertIs(is_twice(form, (text, first, part)), False)
            for wrong in [{"a": part, "b": "y"}, {"a": "xy", "b": "y", "c": part}, {"a": "xy", "b": "y", "d": part},
                          {"a": "xy", "b": "y", None: part}, {"a": "xy", "b": "y", 1: "z"}, {"a": "xy", "b": "y", (): "z"}]:
                self.assertIs(is_twice(form, (text, wrong, second)), False)
                self.assertIs(is_twice(form, (text, second, wrong)), False)

    def test_records_that_the_form_does_not_write(self):
        form = example()
        for wrong in [{}, {"a": "xy"}, {"b": "y"}, {"a": "xy", "b": "y", "d": "z"}, {"a": "xyy", "b": "y"},
                      {"a": "xy", "b": "x"}, {"a": "xy", "b": ""}, {"a": "xy", "b": "y", "c": "y"}]:
            self.assertIs(is_twice(form, ("xyy", wrong, self.good()[1])), False)
            self.assertIs(is_twice(form, ("xyy", self.good()[1], wrong)), False)

    def test_long_texts(self):
        form = Form([[Field("a", FREE), Field("b", FREE)]])
        for length in [400, 401, 1000]:
            first = {"a": "a", "b": "a" * (length - 1)}
            second = {"a": "aa", "b": "a" * (length - 2)}
            self.assertIs(is_twice(form, ("a" * length, first, second)), length == 400)

    def test_large_objects(self):
        form = example()
        deep = ("xyy", {"a": "x"}, {"a": [[[[[[[{"a": ({},)}]]]]]]]})
        self.assertIs(is_twice(form, deep), False)
        self.assertIs(is_twice(form, ("x" * 10 ** 6, {"a": "x" * 10 ** 6, "b": "y"}, {"a": "x", "b": "y" * 10 ** 6})), False)
        self.assertIs(is_twice(form, ("xyy", {str(n): "x" for n in range(5000)}, self.good()[1])), False)

    def test_two_texts(self):
        form = Form([[Field("a", FREE)]])
        self.assertIs(is_twice(form, ("a", {"a": "a"}, {"a": "b"})), False)
        self.assertIs(is_twice(form, ("b", {"a": "a"}, {"a": "b"})), False)


class Arguments(unittest.TestCase):
    def test_unknown_names(self):
        form = example()
        single = Form([[Mark("a")]])
        for thing in [*PLAIN_OBJECTS, *NUMBERS, "", "d", "aa", "A", Signs("a"), ONE, form, ["a"], ("a",), {"a": "a"}]:
            for one in [form, single]:
                with self.subTest(thing), self.assertRaises(Unknown) as caught:
                    unsure(one, thing)
                self.assertIs(caught.exception.name, thing)

    def test_by_name(self):
        form = example()
        self.assertEqual(twice(form=form)[0], "xyy")
        self.assertIs(is_twice(thing=twice(form), form=form), True)
        self.assertEqual(unsure(name="a", form=form)[0], "xyy")
        self.assertEqual(sure_names(form=form), ["c"])

    def test_what_is_returned_is_new(self):
        form = example()
        for _ in range(2):
            text, first, second = twice(form)
            self.assertEqual([first, second], [{"a": "xy", "b": "y"}, {"a": "x", "b": "yy"}])
            first.clear()
            second["z"] = 1
            text, first, second = unsure(form, "a")
            self.assertEqual([first, second], [{"a": "xy", "b": "y"}, {"a": "x", "b": "yy"}])
            first.clear()
            second["z"] = 1
            names = sure_names(form)
            self.assertEqual(names, ["c"])
            names.append("a")

    def test_is_twice_changes_nothing(self):
        form = example()
        thing = ("xyy", {"a": "xy", "b": "y"}, {"a": "x", "b": "yy"})
        is_twice(form, thing)
        self.assertEqual(thing, ("xyy", {"a": "xy", "b": "y"}, {"a": "x", "b": "yy"}))

    def test_the_functions_stand_in_the_module(self):
        for name in ["twice", "is_twice", "unsure", "sure_names", "certificate", "is_certificate"]:
            self.assertEqual(getattr(module, name).__module__, "townlines.verdicts")


if __name__ == "__main__":
    unittest.main()
