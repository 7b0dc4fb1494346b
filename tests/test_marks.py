"""Points 43 to 46: told_apart, parted_by, fewest_marks, marks_certificate and is_marks_certificate."""

import itertools
import time
import unittest

from by_hand import NUMBERS, PLAIN_OBJECTS
from forms_by_hand import FREE, ONE, TWO, random_forms, readings_by_text, small_forms
from pairs_by_hand import Steps, apart, first_pair
from townlines import marks as module
from townlines.errors import BadValue, Missing, TooLarge, Unknown
from townlines.forms import Form
from townlines.items import Field, Mark, Maybe
from townlines.kinds import Kind
from townlines.marks import fewest_marks, is_marks_certificate, marks_certificate, parted_by, told_apart
from townlines.readings import readings
from townlines.signs import Signs
from townlines.verdicts import is_twice, twice

FORMS = [*small_forms(), *random_forms(43, 220)]
LONGEST = 5
FOUR = "{a}[{b}]{c}[b{d}]"


def example():
    return Form.parse("{a}{b}[{c}]", {"a": Kind.run("xy", 1, 2), "b": Kind.run("y", 1, 2), "c": Kind.words(["z"])})


def form_of(spelling, kind=FREE):
    return Form.parse(spelling, {name: kind for name in "abcdefghijklmnopqrstuvwxyz"})


def four_field_forms():
    kinds = [FREE, TWO, Kind.words(["a", "ab", "ba"]), Kind.run("a", 0, 1) + Kind.run("b")]
    spellings = ["{a}{b}{c}{d}", FOUR, "[{a}][{b}]\n[{c}][{d}]", "{a}[{b}[{c}]]\n{d}", "[{a}{b}][{c}{d}]", "[{a}b{b}]{c}{d}"]
    return [Form.parse(spelling, {name: kinds[(at + shift * number) % 4] for number, name in enumerate("abcd")})
            for shift in range(3) for at, spelling in enumerate(spellings)]


def rows_of(names):
    """All rows of at most three different names."""
    for size in range(min(len(names), 3) + 1):
        yield from itertools.combinations(names, size)


class ToldApart(unittest.TestCase):
    def test_all_pairs_of_readings(self):
        for form in FORMS:
            rows = [row for rows in readings_by_text(form, 3).values() for row in rows]
            for (row, record), (other, other_record) in itertools.product(rows[:12], repeat=2):
                self.assertEqual(told_apart(form, record, other_record), apart(form, row, other), form.spelled())

    def test_only_the_starts_count(self):
        form = form_of("{a}{b}[c{c}]")
        self.assertEqual(told_apart(form, {"a": "a", "b": "bb"}, {"a": "a", "b": "a"}), [])
        self.assertEqual(told_apart(form, {"a": "a", "b": "bb"}, {"a": "b", "b": "ab"}), [])
        self.assertEqual(told_apart(form, {"a": "ab", "b": "b"}, {"a": "a", "b": "bb"}), ["b"])
        self.assertEqual(told_apart(form, {"a": "ab", "b": "b"}, {"a": "a", "b": "bb", "c": "a"}), ["b", "c"])
        self.assertEqual(told_apart(form, {"a": "a", "b": "b", "c": "a"}, {"a": "a", "b": "bb", "c": "b"}), ["c"])

    def test_the_order_of_the_form(self):
        form = form_of("[{z}][{c}][{k}]a")
        self.assertEqual(told_apart(form, {"z": "a", "c": "a"}, {"k": "a"}), ["z", "c", "k"])
        self.assertEqual(told_apart(form, {}, {}), [])
        self.assertEqual(told_apart(form, {}, {"c": "b"}), ["c"])

    def test_errors_of_write(self):
        form = Form([[Field("a", FREE), Field("b", FREE)], [Maybe([Field("c", TWO)])]])
        good = {"a": "a", "b": "b"}
        cases = [({"a": "a", "b": "b", "d": "a"}, Unknown, "d"), ({"a": "a", "b": "b", "d": "a", "B": 1}, Unknown, "B"),
                 ({"a": "a"}, Missing, "b"), ({}, Missing, "a"), ({"a": "a", "b": "c"}, BadValue, "b"),
                 ({"a": None, "b": []}, BadValue, "a"), ({"a": "a", "b": "b", "c": "aaa"}, BadValue, "c")]
        for wrong, error, name in cases:
            for first, second in [(wrong, good), (good, wrong), (wrong, wrong)]:
                with self.assertRaises(error) as caught:
                    told_apart(form, first, second)
                self.assertEqual(caught.exception.name, name)
        for one, other in itertools.permutations(cases, 2):
            with self.assertRaises(one[1]) as caught:
                told_apart(form, one[0], other[0])
            self.assertEqual(caught.exception.name, one[2])
        long = {"a": "a", "b": "b" * 400}
        for first, second in [(long, good), (good, long), (long, long), (long, {})]:
            with self.assertRaises(TooLarge):
                told_apart(form, first, second)
        with self.assertRaises(Missing):
            told_apart(form, {}, long)

    def test_what_is_passed_stays(self):
        form = example()
        first, second = {"a": "xy", "b": "y"}, {"a": "x", "b": "yy", "c": "z"}
        found = told_apart(second=second, first=first, form=form)
        self.assertEqual([first, second, found], [{"a": "xy", "b": "y"}, {"a": "x", "b": "yy", "c": "z"}, ["b", "c"]])
        found.append("z")
        self.assertEqual(told_apart(form, first, second), ["b", "c"])


class PartedBy(unittest.TestCase):
    def test_all_short_texts(self):
        seen = [0, 0, 0]
        for form in FORMS + four_field_forms():
            found = readings_by_text(form, LONGEST)
            for names in rows_of(form.names()):
                expected = first_pair(found, lambda row, other: not set(apart(form, row, other)) & set(names))
                result = parted_by(form, names)
                if expected is None and result is not None:
                    text = Steps(form).least_unparted(names, len(result[0]))
                    self.assertEqual(result[0], text, (form.spelled(), names))
                    self.assertGreater(len(text), LONGEST)
                else:
                    self.assertEqual(result, expected, (form.spelled(), names))
                if result is None:
                    self.assertIsNone(Steps(form).least_unparted(names, LONGEST + 1), (form.spelled(), names))
                else:
                    text, first, second = result
                    self.assertIs(is_twice(form, result), True)
                    self.assertEqual(set(told_apart(form, first, second)) & set(names), set())
                    seen[1] += readings(form, text, most=1000)[0] != first
                seen[2 * (result is None)] += 1
        self.assertGreater(seen[0], 100)
        self.assertGreater(seen[2], 300)
        self.assertGreater(seen[1], 5)

    def test_no_names_and_all_names(self):
        for form in FORMS:
            self.assertEqual(parted_by(form, []), twice(form))
            self.assertIs(parted_by(form, form.names()), None)

    def test_example(self):
        form = example()
        expected = ("xyy", {"a": "xy", "b": "y"}, {"a": "x", "b": "yy"})
        self.assertEqual(parted_by(form, ["c", "a"]), expected)
        self.assertEqual(parted_by(form, ()), expected)
        self.assertIs(parted_by(form, ("b",)), None)

    def test_orders_and_duplicates(self):
        for form in four_field_forms():
            for names in rows_of(form.names()):
                result = parted_by(form, names)
                self.assertEqual(parted_by(form, list(names[::-1])), result)
                self.assertEqual(parted_by(form, names + names[:1] + names), result)

    def test_the_first_of_the_pair_need_not_be_the_first_reading(self):
        form = Form([[Maybe([Field("a", Kind.run("a", 3, 3))]), Maybe([Field("b", TWO), Field("c", TWO)])]])
        self.assertEqual(readings(form, "aaa"), [{"a": "aaa"}, {"b": "aa", "c": "a"}, {"b": "a", "c": "aa"}])
        self.assertEqual(parted_by(form, ["a"]), ("aaa", {"b": "aa", "c": "a"}, {"b": "a", "c": "aa"}))
        self.assertEqual(parted_by(form, ["b"]), ("aaa", {"b": "aa", "c": "a"}, {"b": "a", "c": "aa"}))
        self.assertIs(parted_by(form, ["c"]), None)

    def test_a_long_text(self):
        form = Form([[Mark("a" * 90), Field("a", TWO), Field("b", TWO), Mark("c" * 100)]])
        pair = ("a" * 93 + "c" * 100, {"a": "aa", "b": "a"}, {"a": "a", "b": "aa"})
        self.assertEqual(parted_by(form, ["a"]), pair)
        self.assertIs(parted_by(form, ["b"]), None)

    def test_new_marks_tell_the_readings_apart(self):
        """Names that part all readings make the form single if each has a mark of its own before it."""
        for form in FORMS[::3] + four_field_forms():
            for names in rows_of(form.names()):
                marked = form
                for at, name in enumerate(names):
                    marked = marked.with_mark(name, "<" + "cdefgh"[at] + ">")
                self.assertEqual(parted_by(form, names) is None, twice(marked) is None, (form.spelled(), names))

    def test_unknown_names(self):
        form = example()
        for thing in [*PLAIN_OBJECTS, *NUMBERS, "", "d", "A", "ab", Signs("a"), ONE, form]:
            for names in [[thing], ["a", thing], (thing, "a"), ["b", "c", thing, "no", None], (thing, [])]:
                with self.subTest(thing), self.assertRaises(Unknown) as caught:
                    parted_by(form, names)
                self.assertIs(caught.exception.name, thing)

    def test_what_is_passed_stays(self):
        form = example()
        names = ["c", "a", "c"]
        for _ in range(2):
            text, first, second = parted_by(names=names, form=form)
            self.assertEqual(names, ["c", "a", "c"])
            self.assertEqual([first, second], [{"a": "xy", "b": "y"}, {"a": "x", "b": "yy"}])
            first.clear()
            second["z"] = 1


def fewest_by_hand(form):
    names = form.names()
    for size in range(len(names) + 1):
        for row in itertools.combinations(range(len(names)), size):
            if parted_by(form, [names[at] for at in row]) is None:
                return [names[at] for at in row]
    return None


def eight_field_forms():
    names = "abcdefgh"
    return [form_of("".join("{" + name + "}" for name in names)), form_of("".join("[{" + name + "}]" for name in names)),
            form_of("[{a}][{b}][{c}][{d}]\n[{e}][{f}][{g}][{h}]", Kind.run("ab", 1, 24)),
            form_of("{a}-{b}{c}\n{d}[{e}[{f}]]-{g}\n{h}", Kind.run("ab-", 0, 11) + Kind.run("b", 1, None)),
            form_of("{a}{b}{c}{d}{e}{f}{g}{h}", Kind.run("ab", 0, 1) * 9 + Kind.run("a", 1, 9)),
            form_of("{a}-{b}-{c}-{d}-{e}-{f}-{g}-{h}", Kind.run("ab", 1, 23))]


class FewestMarks(unittest.TestCase):
    def test_against_all_lists_of_names(self):
        sizes = {}
        for form in FORMS + four_field_forms():
            found = fewest_marks(form)
            self.assertEqual(found, fewest_by_hand(form), form.spelled())
            sizes[len(found)] = sizes.get(len(found), 0) + 1
        self.assertGreater(sizes[0], 50)
        self.assertGreater(sizes[1], 50)
        self.assertGreater(sizes[2], 10)
        self.assertGreater(sizes[3], 0)

    def test_the_least_of_the_shortest(self):
        form = form_of("[{z}][{c}]", ONE)
        self.assertEqual(fewest_marks(form), ["z"])
        form = Form([[Maybe([Field("z", ONE)]), Maybe([Field("c", ONE)]), Maybe([Field("k", ONE)])]])
        self.assertEqual(fewest_marks(form), ["z", "c"])

    def test_eight_fields(self):
        for form in eight_field_forms():
            before = time.monotonic()
            names, pairs = marks_certificate(form)
            self.assertEqual(fewest_marks(form), names)
            self.assertIs(is_marks_certificate(form, (names, pairs)), True)
            self.assertLess(time.monotonic() - before, 20)
            self.assertLessEqual(len(pairs), 256)
            self.assertIs(parted_by(form, names), None)
        self.assertEqual(fewest_marks(eight_field_forms()[0]), list("bcdefgh"))
        self.assertEqual(fewest_marks(eight_field_forms()[-1]), [])

    def test_nine_fields(self):
        for form in [form_of("{a}-{b}-{c}-{d}-{e}-{f}-{g}-{h}-{i}"), form_of("".join("{" + n + "}" for n in "abcdefghijkl"))]:
            for call in [fewest_marks, marks_certificate, lambda form: is_marks_certificate(form, ([], []))]:
                with self.assertRaises(TooLarge):
                    call(form)


class Certificates(unittest.TestCase):
    def test_they_hold(self):
        numbers = {}
        for form in FORMS + four_field_forms():
            result = marks_certificate(form)
            names, pairs = result
            self.assertEqual([type(result), type(names), type(pairs)], [tuple, list, list])
            self.assertEqual(names, fewest_marks(form))
            self.assertTrue(all(is_twice(form, pair) for pair in pairs))
            for fewer in self.fewer(form, names):
                self.assertTrue(any(not set(told_apart(form, one, two)) & set(fewer) for _, one, two in pairs))
            self.assertIs(is_marks_certificate(form, result), True)
            self.assertIs(is_marks_certificate(form, (names[::-1], pairs[::-1] + pairs)), True)
            numbers[len(pairs)] = numbers.get(len(pairs), 0) + 1
        self.assertGreater(len(numbers), 3)

    def fewer(self, form, names):
        return [row for size in range(len(names)) for row in itertools.combinations(form.names(), size)]

    def judge(self, form, names, pairs):
        """Point 46, for a list of field names without duplicates and a list of pairs as `is_twice` takes them."""
        if parted_by(form, names) is not None:
            return False
        return all(any(not set(told_apart(form, one, two)) & set(fewer) for _, one, two in pairs)
                   for fewer in self.fewer(form, names))

    def test_other_names_and_pairs(self):
        seen = [0, 0]
        for form in FORMS[::3] + four_field_forms():
            names, pairs = marks_certificate(form)
            some = [pairs, pairs[1:], pairs[:-1], [pair[:1] + pair[:0:-1] for pair in pairs], []]
            for size in range(len(form.names()) + 1):
                for row in itertools.permutations(form.names(), size):
                    for chosen in some:
                        expected = self.judge(form, row, chosen)
                        self.assertIs(is_marks_certificate(form, (list(row), chosen)), expected)
                        seen[expected] += 1
        self.assertGreater(min(seen), 80)

    def test_spoilt_objects(self):
        form = example()
        names, pairs = marks_certificate(form)
        pair = pairs[0]
        self.assertIs(is_marks_certificate(form, (names, pairs)), True)
        for wrong in [[names, pairs], (names,), (names, pairs, []), (tuple(names), pairs), (names, tuple(pairs)), (names, {}),
                      ({"b": True}, pairs), ("b", pairs), (names * 2, pairs), (["d"], pairs), ([], pairs), (["a"], pairs),
                      (["a", "b"], pairs), (names, []), (names, [pair, None]), (names, [pair, pair[:2]]),
                      (names, [list(pair)]), (names, [(pair[0], pair[1], pair[1])]), (names, [("x", pair[1], pair[2]), pair]),
                      (["a", "b", "c"], pairs)]:
            self.assertIs(is_marks_certificate(form, wrong), False, wrong)
        for part in [*PLAIN_OBJECTS, *NUMBERS, "", Signs("a"), ONE, form]:
            self.assertIs(is_marks_certificate(form, part), False)
            self.assertIs(is_marks_certificate(form, (part, pairs)), False)
            self.assertIs(is_marks_certificate(form, (names, part)), False)
            self.assertIs(is_marks_certificate(form, ([part], pairs)), False)
            self.assertIs(is_marks_certificate(form, (["b", part], pairs)), False)
            self.assertIs(is_marks_certificate(form, (names, pairs + [part])), False)
        nine = form_of("{a}-{b}-{c}-{d}-{e}-{f}-{g}-{h}-{i}")
        for part in [*PLAIN_OBJECTS, (names, pairs), ([], [])]:
            with self.assertRaises(TooLarge):
                is_marks_certificate(nine, part)

    def test_a_single_form(self):
        form = form_of("{a}-{b}")
        self.assertEqual(marks_certificate(form), ([], []))
        self.assertIs(is_marks_certificate(form, ([], [])), True)
        self.assertIs(is_marks_certificate(form, (["a"], [])), False)
        self.assertIs(is_marks_certificate(form, ([], [None])), False)

    def test_what_is_returned_is_new(self):
        form = example()
        for _ in range(2):
            names, pairs = marks_certificate(form=form)
            self.assertEqual(names, ["b"])
            self.assertIs(is_marks_certificate(thing=(names, pairs), form=form), True)
            pairs[0][1].clear()
            pairs.clear()
            names.append("z")
            found = fewest_marks(form=form)
            self.assertEqual(found, ["b"])
            found.clear()

    def test_the_functions_stand_in_the_module(self):
        for name in ["told_apart", "parted_by", "fewest_marks", "marks_certificate", "is_marks_certificate"]:
            self.assertEqual(getattr(module, name).__module__, "townlines.marks")


if __name__ == "__main__":
    unittest.main()
