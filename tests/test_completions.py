"""Point 61: told_so_far."""

import time
import unittest

from by_hand import strings
from forms_by_hand import BAD_TEXTS, FREE, ONE, TWO, Walks, random_forms, readings_by_text, small_forms
from pairs_by_hand import spans_of
from townlines import completions as module
from townlines.completions import told_so_far
from townlines.errors import BadText, NoReading
from townlines.forms import Form
from townlines.items import Field, Mark, Maybe
from townlines.kinds import Kind
from townlines.readings import sure
from townlines.signs import Signs

FORMS = [*small_forms(), *random_forms(61, 250)]


def rows_of(found, text):
    """The rows of owners of all beginnings of walks that pass the text, each with one owner more or with None."""
    rows = {((), -1)}
    for char in text:
        rows = {(row + (found.places[target][0] or "",), target) for row, place in rows
                for target in found.after[place] if char in found.places[target][1]}
    longer = set()
    for row, place in rows:
        longer |= {(row, found.places[target][0] or "") for target in found.after[place]}
        if found.can_end({place}):
            longer.add((row, None))
    return longer


def told_by_hand(found, text):
    """The fields that end within the text, at one span in all its beginnings of walks; None if there is none."""
    rows = rows_of(found, text)
    if not rows:
        return None
    told = None
    for row, after in rows:
        ended = {name: span for name, span in spans_of(list(row)).items() if name != after or span[1] < len(row)}
        told = ended if told is None else {name: span for name, span in told.items() if ended.get(name) == span}
    return {name: text[start:stop] for name, (start, stop) in told.items()}


class AllBeginnings(unittest.TestCase):
    def test_against_all_beginnings_of_walks(self):
        seen = {}
        for form in FORMS:
            found = Walks(form)
            for text in strings("ab\n", 4):
                expected = told_by_hand(found, text)
                if expected is None:
                    with self.assertRaises(NoReading):
                        told_so_far(form, text)
                else:
                    self.assertEqual(told_so_far(form, text), expected, (form.spelled(), text))
                seen[expected if expected is None else len(expected)] = True
        self.assertGreaterEqual(len(seen), 4)

    def test_against_all_readings_of_all_texts(self):
        """Forms whose texts have at most eight characters, so that all of them are found by trying."""
        kinds = [ONE, TWO, Kind.words(["a", "ab", "ba"]), Kind.run("a", 0, 1) + Kind.run("b")]
        number = 0
        for at, spelling in enumerate(["{p}{q}", "[{p}]{q}", "{p}[a{q}]", "[{p}]\n[{q}]", "{p}\n{q}", "a[{p}[b{q}]]", "[{p}][{q}]",
                                       "{p}[{q}]\n[{r}]", "[{p}]\n{q}", "{p}b[{q}]", "[{p}[{q}]]a", "{p}{q}{r}"]):
            for shift in range(4):
                form = Form.parse(spelling, {name: kinds[(at + shift + place) % 4] for place, name in enumerate("pqr")})
                found = readings_by_text(form, 9)
                for text in {longer[:stop] for longer in found for stop in range(len(longer) + 1)}:
                    told = None
                    for longer, rows in found.items():
                        if longer.startswith(text):
                            for row, _ in rows:
                                spans = {name: span for name, span in spans_of(row).items() if span[1] <= len(text)}
                                told = spans if told is None else {name: span for name, span in told.items()
                                                                   if spans.get(name) == span}
                    expected = {name: text[start:stop] for name, (start, stop) in told.items()}
                    self.assertEqual(told_so_far(form, text), expected, (form.spelled(), text))
                    number += len(expected) > 0
        self.assertGreater(number, 150)

    def test_what_is_told_is_sure(self):
        for form in FORMS:
            for text in readings_by_text(form, 4):
                certain = sure(form, text)
                for name, value in told_so_far(form, text).items():
                    self.assertEqual(certain[name], value)


class Ordinary(unittest.TestCase):
    def test_examples(self):
        form = Form.parse("{a}-{b}", {"a": Kind.run("xy", 1, None), "b": Kind.run("xy", 1, None)})
        self.assertEqual(told_so_far(form, "x-y"), {"a": "x"})
        self.assertEqual(told_so_far(form, "x"), {})
        self.assertEqual([told_so_far(form, text) for text in ["", "xy", "xy-", "xy-yyy"]], [{}, {}, {"a": "xy"}, {"a": "xy"}])

    def test_a_field_that_cannot_go_on(self):
        form = Form.parse("{a}{b}[-{c}]", {"a": Kind.run("x", 2, 2), "b": Kind.run("y", 1, 2), "c": Kind.run("z", 3, 3)})
        texts = ["x", "xx", "xxy", "xxyy", "xxy-", "xxyy-zz", "xxyy-zzz"]
        self.assertEqual([told_so_far(form, text) for text in texts],
                         [{}, {"a": "xx"}, {"a": "xx"}, {"a": "xx", "b": "yy"}, {"a": "xx", "b": "y"}, {"a": "xx", "b": "yy"},
                          {"a": "xx", "b": "yy", "c": "zzz"}])

    def test_a_walk_that_can_go_on_beside_one_that_cannot(self):
        kind = Kind.words(["ab"]) | Kind.run("a") + Kind.run("b", 1, 3)
        form = Form([[Field("a", kind), Maybe([Mark("c")] + [Field("b", ONE)])]])
        self.assertEqual([told_so_far(form, text) for text in ["ab", "abb", "abbb", "abc"]], [{}, {}, {"a": "abbb"}, {"a": "ab"}])

    def test_a_text_that_is_not_readable_yet(self):
        form = Form([[Field("a", ONE)], [Field("b", ONE)], [Mark("z" * 30)]])
        self.assertEqual([told_so_far(form, text) for text in ["a", "a\n", "a\na", "a\na\nzz"]],
                         [{"a": "a"}, {"a": "a"}, {"a": "a", "b": "a"}, {"a": "a", "b": "a"}])

    def test_other_ways_of_going_on(self):
        """Behind the text only one reading is left, but not for all texts that begin so."""
        form = Form([[Maybe([Field("a", TWO), Mark("c")]), Maybe([Field("b", TWO)]), Mark("d")]])
        self.assertEqual([told_so_far(form, text) for text in ["", "a", "ab", "abc", "abd", "acb", "acbb", "acbbd", "d"]],
                         [{}, {}, {}, {"a": "ab"}, {"b": "ab"}, {"a": "a"}, {"a": "a", "b": "bb"}, {"a": "a", "b": "bb"}, {}])

    def test_fields_that_the_rest_decides(self):
        form = Form([[Field("a", FREE), Maybe([Field("b", FREE), Mark("!")])]])
        self.assertEqual([told_so_far(form, text) for text in ["a", "aa", "aa!"]], [{}, {}, {"a": "a", "b": "a"}])
        self.assertEqual(told_so_far(form, "aaa!"), {})

    def test_no_reading(self):
        form = Form.parse("{a}-{b}", {"a": Kind.run("xy", 1, None), "b": Kind.run("xy", 1, None)})
        for text in ["-", "x--", "z", "x-y-", "\n", "x\n", "x" * 399 + "!"]:
            with self.assertRaises(NoReading):
                told_so_far(form, text)

    def test_texts_of_400_characters(self):
        form = Form([[Field("a", FREE), Mark("-" * 60)], [Field("b", FREE)]])
        text = "a" * 300 + "-" * 60 + "\n" + "b" * 39
        self.assertEqual(told_so_far(form, text), {"a": "a" * 300})
        self.assertEqual(told_so_far(form, "a" * 400), {})
        self.assertEqual(told_so_far(form, "a" * 399 + "-"), {"a": "a" * 399})

    def test_long_forms_within_seconds(self):
        form = Form([[Field(name, Kind.run("xy", 1, 16)) for name in "abcdefghijkl"]])
        before = time.monotonic()
        self.assertEqual(told_so_far(form, "xy" * 90), {})
        self.assertEqual(told_so_far(form, "x" * 192), {name: "x" * 16 for name in "abcdefghijkl"})
        self.assertLess(time.monotonic() - before, 10)


class Arguments(unittest.TestCase):
    def test_what_no_text_is(self):
        for form in [Form([[Field("a", FREE)]]), Form([[Mark("-")]])]:
            for thing in BAD_TEXTS:
                with self.subTest(thing), self.assertRaises(BadText):
                    told_so_far(form, thing)

    def test_by_name_and_new(self):
        form = Form.parse("{a}-{b}", {"a": Kind.run("xy", 1, None), "b": Kind.run("xy", 1, None)})
        for _ in range(2):
            found = told_so_far(text="x-", form=form)
            self.assertEqual(found, {"a": "x"})
            found.clear()

    def test_forms_without_fields(self):
        form = Form([[Mark("ab")]])
        self.assertEqual([told_so_far(form, text) for text in ["", "a", "ab"]], [{}, {}, {}])

    def test_all_signs(self):
        form = Form([[Field("a", Kind.run(~Signs(), 1, None))], [Field("b", ONE)]])
        self.assertEqual(told_so_far(form, "{~}\n"), {"a": "{~}"})

    def test_the_function_stands_in_the_module(self):
        self.assertEqual(module.told_so_far.__module__, "townlines.completions")


if __name__ == "__main__":
    unittest.main()
