"""Points 58 to 60: fitted."""

import itertools
import random
import time
import unittest

from by_hand import NUMBERS, PLAIN_OBJECTS, is_word
from forms_by_hand import ONE, all_fields
from townlines import fitting as module
from townlines.errors import BadNumber, BadShort, BadValue, Missing, TooLarge, TooMany, TooWide, Unknown
from townlines.fitting import fitted
from townlines.forms import Form
from townlines.items import Field, Mark, Maybe
from townlines.kinds import Kind
from townlines.signs import Signs

WORDS = Kind.run(Signs.letters() | " ", 1, None)
DIGITS = Kind.run(Signs.digits(), 1, 3)


def road_form():
    return Form.parse("{road} {house}", {"road": WORDS, "house": DIGITS})


def three_lines():
    return Form.parse("{a}[ {b}]\n[{c}]\n[{d}, ]{e}", {name: WORDS for name in "abcde"})


def spots_of(form, record, shorter):
    return [(at, number) for at, name in enumerate(form.names()) if name in record
            for number, word in enumerate(record[name].split(" ")) if word in shorter.get(name, {})]


def replaced(form, record, shorter, spots):
    changed = {}
    for at, name in enumerate(form.names()):
        if name in record:
            words = record[name].split(" ")
            changed[name] = " ".join(shorter[name][word] if (at, number) in spots else word
                                     for number, word in enumerate(words))
    return changed


def line_names(form, record):
    """For each written line the names of its fields that the record has."""
    rows = [[field.name for field in all_fields(line) if field.name in record] for line in form.lines]
    return [row for line, row in zip(form.lines, rows) if row or any(isinstance(item, Mark) for item in line)]


def fitted_by_hand(form, record, width, shorter):
    """The fitted record, found by trying all sets of spots of each line, or the number of the line that is too wide."""
    kinds = {field.name: field.kind for line in form.lines for field in all_fields(line)}
    spots = spots_of(form, record, shorter)
    chosen = []
    for line, names in enumerate(line_names(form, record)):
        here = [spot for spot in spots if form.names()[spot[0]] in names]
        found = []
        for size in range(len(here) + 1):
            for some in itertools.combinations(here, size):
                changed = replaced(form, record, shorter, some)
                if all(is_word(kinds[name], changed[name]) for name in names):
                    if len(form.write(changed).split("\n")[line]) <= width:
                        found.append(list(some))
        if not found:
            return line
        chosen += min(found, key=lambda row: (len(row), row))
    return replaced(form, record, shorter, chosen)


class AllSets(unittest.TestCase):
    def check(self, form, record, shorter, widths=range(1, 25)):
        seen = []
        for width in widths:
            expected = fitted_by_hand(form, record, width, shorter)
            if isinstance(expected, dict):
                self.assertEqual(fitted(form, record, width, shorter), expected, (form.spelled(), record, width, shorter))
            else:
                with self.assertRaises(TooWide) as caught:
                    fitted(form, record, width, shorter)
                self.assertEqual(caught.exception.line, expected)
            seen.append(expected)
        return seen

    def test_one_line(self):
        record = {"road": "long long street of kings", "house": "7"}
        shorter = {"road": {"long": "lg", "street": "st", "kings": "kgs", "of": "o"}}
        seen = self.check(road_form(), record, shorter, range(1, 40))
        self.assertGreater(len({str(one) for one in seen}), 6)

    def test_lines_that_are_not_written(self):
        shorter = {name: {"aaa": "b", "cc": "c", "dddd": "dd"} for name in "abcde"}
        for record in [{"a": "aaa cc", "e": "dddd aaa"}, {"a": "cc", "b": "aaa aaa", "c": "dddd", "d": "aaa", "e": "cc cc"},
                       {"a": "cc", "c": "dddd dddd", "e": "x"}, {"a": "x", "e": "aaa dddd cc"}]:
            self.check(three_lines(), record, shorter)

    def test_drawn_records(self):
        draw = random.Random(58)
        kinds = [WORDS, Kind.run("abcd ", 1, 12), Kind.run("abd ", 0, None) + Kind.run("c", 1, 2) + Kind.run("abcd ", 0, None),
                 Kind.run("ab ", 1, None) | Kind.run("cd ", 1, None), Kind.run("abc ", 4, None)]
        spellings = ["{p} {q}", "{p}\n{q}", "[{p}, ]{q}\n[{r}]", "{p}[{q}[-{r}]]", "[{p}]\n[{q}]\n[{r}]", "x{p}\ny[{q}]{r}"]
        words = ["aa", "aaa", "bb", "cc", "ab", "dd", "bba", "a", "cba"]
        seen = {dict: 0, int: 0}
        for _ in range(170):
            form = Form.parse(draw.choice(spellings), {name: draw.choice(kinds) for name in "pqr"})
            record = {}
            for field in form.fields:
                if draw.random() < 0.8 or field.name in "pq":
                    values = [" ".join(draw.choice([*words, ""]) for _ in range(draw.randint(1, 4))) for _ in range(30)]
                    fitting = [value for value in values if value in field.kind]
                    if fitting:
                        record[field.name] = fitting[0]
            try:
                form.write(record)
            except Missing:
                continue
            shorter = {}
            for name in form.names():
                if draw.random() < 0.8:
                    shorter[name] = {word: draw.choice([other for other in ["a", "b", "c", "d", "x", "ab", "cc"]
                                                        if len(other) < len(word)])
                                     for word in words if len(word) > 1 and draw.random() < 0.7}
            if len(spots_of(form, record, shorter)) <= 8:
                for one in self.check(form, record, shorter, range(1, 16)):
                    seen[type(one)] += 1
        self.assertGreater(min(seen.values()), 200)


class Ordinary(unittest.TestCase):
    def test_example(self):
        record = {"road": "long street", "house": "7"}
        short = {"road": {"street": "st", "long": "lg"}}
        self.assertEqual(fitted(road_form(), record, 10, short), {"road": "long st", "house": "7"})
        with self.assertRaises(TooWide) as caught:
            fitted(road_form(), record, 6, short)
        self.assertEqual(caught.exception.line, 0)

    def test_a_line_that_fits_stays(self):
        record = {"road": "long street", "house": "7"}
        short = {"road": {"street": "st", "long": "lg"}}
        for width in [13, 14, 300]:
            self.assertEqual(fitted(road_form(), record, width, short), record)
        self.assertEqual(fitted(road_form(), record, 12, short), {"road": "lg street", "house": "7"})
        self.assertEqual(fitted(road_form(), record, 13, {}), record)
        self.assertEqual(fitted(road_form(), record, 13, {"road": {}}), record)
        with self.assertRaises(TooWide):
            fitted(road_form(), record, 12, {})

    def test_the_fewest_spots_and_then_the_least_list(self):
        form = Form.parse("{b} {a}", {"a": WORDS, "b": WORDS})
        shorter = {"a": {"xxxxx": "x", "yyyy": "yy"}, "b": {"xxxxx": "xxx", "yyyy": "yy"}}
        record = {"b": "yyyy xxxxx yyyy", "a": "yyyy xxxxx"}
        self.assertEqual(len(form.write(record)), 26)
        self.assertEqual(fitted(form, record, 25, shorter), {"b": "yy xxxxx yyyy", "a": "yyyy xxxxx"})
        self.assertEqual(fitted(form, record, 24, shorter), {"b": "yy xxxxx yyyy", "a": "yyyy xxxxx"})
        self.assertEqual(fitted(form, record, 23, shorter), {"b": "yyyy xxxxx yyyy", "a": "yyyy x"})
        self.assertEqual(fitted(form, record, 22, shorter), {"b": "yyyy xxxxx yyyy", "a": "yyyy x"})
        self.assertEqual(fitted(form, record, 21, shorter), {"b": "yy xxxxx yyyy", "a": "yyyy x"})
        self.assertEqual(fitted(form, record, 19, shorter), {"b": "yy xxx yyyy", "a": "yyyy x"})
        self.assertEqual(fitted(form, record, 14, shorter), {"b": "yy xxx yy", "a": "yy x"})
        with self.assertRaises(TooWide):
            fitted(form, record, 13, shorter)

    def test_words_that_stand_twice(self):
        form = Form.parse("{a}", {"a": WORDS})
        shorter = {"a": {"st": "s"}}
        self.assertEqual(fitted(form, {"a": "st st st"}, 7, shorter), {"a": "s st st"})
        self.assertEqual(fitted(form, {"a": "st st st"}, 6, shorter), {"a": "s s st"})
        self.assertEqual(fitted(form, {"a": "st st st"}, 5, shorter), {"a": "s s s"})

    def test_blanks_at_the_ends_and_side_by_side(self):
        form = Form.parse("{a}", {"a": WORDS})
        shorter = {"a": {"st": "s", "lane": "ln"}}
        self.assertEqual(fitted(form, {"a": " st  lane "}, 9, shorter), {"a": " s  lane "})
        self.assertEqual(fitted(form, {"a": " st  lane "}, 8, shorter), {"a": " st  ln "})
        self.assertEqual(fitted(form, {"a": " st  lane "}, 7, shorter), {"a": " s  ln "})
        self.assertEqual(fitted(form, {"a": "  "}, 2, shorter), {"a": "  "})
        with self.assertRaises(TooWide):
            fitted(form, {"a": "  "}, 1, shorter)

    def test_short_words_are_not_shortened_again(self):
        form = Form.parse("{a}", {"a": WORDS})
        shorter = {"a": {"street": "str", "str": "s"}}
        self.assertEqual(fitted(form, {"a": "street str"}, 9, shorter), {"a": "str str"})
        self.assertEqual(fitted(form, {"a": "street str"}, 5, shorter), {"a": "str s"})
        with self.assertRaises(TooWide):
            fitted(form, {"a": "street str"}, 4, shorter)

    def test_sets_that_take_a_value_out_of_its_kind(self):
        """Here the first two words may be shortened together only."""
        kind = Kind.words(["aa bb cc", "a b cc", "aa bb c", "a b c"])
        form = Form([[Field("a", kind), Mark(" "), Field("b", WORDS)]])
        shorter = {"a": {"aa": "a", "bb": "b", "cc": "c"}, "b": {"long": "lon"}}
        record = {"a": "aa bb cc", "b": "long long"}
        self.assertEqual(fitted(form, record, 17, shorter), {"a": "aa bb c", "b": "long long"})
        self.assertEqual(fitted(form, record, 16, shorter), {"a": "a b cc", "b": "long long"})
        self.assertEqual(fitted(form, record, 15, shorter), {"a": "a b c", "b": "long long"})
        self.assertEqual(fitted(form, record, 14, shorter), {"a": "a b c", "b": "lon long"})
        with self.assertRaises(TooWide):
            fitted(form, record, 12, shorter)

    def test_a_short_word_with_other_signs(self):
        form = Form.parse("{a}", {"a": WORDS})
        for word in ["s7", "\u00e4", "s\n", "%"]:
            self.assertEqual(fitted(form, {"a": "street"}, 6, {"a": {"street": word}}), {"a": "street"})
            with self.assertRaises(TooWide):
                fitted(form, {"a": "street"}, 5, {"a": {"street": word}})

    def test_the_first_line_that_is_too_wide(self):
        record = {"a": "a", "b": "bb", "c": "cccccc", "d": "dd", "e": "eeee"}
        for width, line in [(3, 0), (4, 1), (5, 1), (6, 2), (7, 2)]:
            with self.assertRaises(TooWide) as caught:
                fitted(three_lines(), record, width, {})
            self.assertEqual(caught.exception.line, line)
        self.assertEqual(fitted(three_lines(), record, 8, {}), record)

    def test_lines_that_are_left_out_have_no_number(self):
        record = {"a": "aaa", "e": "eeee"}
        with self.assertRaises(TooWide) as caught:
            fitted(three_lines(), record, 3, {})
        self.assertEqual(caught.exception.line, 1)
        form = Form.parse("[{a}]\n[{b}]\n{c}", {name: WORDS for name in "abc"})
        with self.assertRaises(TooWide) as caught:
            fitted(form, {"c": "cc"}, 1, {})
        self.assertEqual(caught.exception.line, 0)

    def test_lines_of_marks(self):
        form = Form.parse("{a}\n------", {"a": WORDS})
        with self.assertRaises(TooWide) as caught:
            fitted(form, {"a": "a"}, 5, {"a": {"aa": "a"}})
        self.assertEqual(caught.exception.line, 1)

    def test_the_empty_text(self):
        form = Form([[Maybe([Field("a", WORDS)])], [Maybe([Field("b", WORDS)])]])
        record = {}
        found = fitted(form, record, 1, {"a": {"aa": "a"}})
        self.assertEqual(found, {})
        self.assertIsNot(found, record)


class Limits(unittest.TestCase):
    def test_twelve_and_thirteen_spots(self):
        form = Form.parse("{a}\n[{b}]", {"a": WORDS, "b": WORDS})
        shorter = {"a": {"ab": "a"}, "b": {"ab": "b"}}
        twelve = " ".join(["ab"] * 12)
        self.assertEqual(fitted(form, {"a": twelve}, 35, shorter), {"a": twelve})
        self.assertEqual(fitted(form, {"a": twelve}, 30, shorter), {"a": "a a a a a " + " ".join(["ab"] * 7)})
        self.assertEqual(fitted(form, {"a": twelve}, 23, shorter), {"a": " ".join("a" * 12)})
        with self.assertRaises(TooWide):
            fitted(form, {"a": twelve}, 22, shorter)
        for record in [{"a": twelve + " ab"}, {"a": twelve, "b": "ab"}, {"a": "ab ab ab", "b": " ".join(["ab"] * 10)}]:
            for width in [1, 22, 300]:
                with self.assertRaises(TooMany):
                    fitted(form, record, width, shorter)
        self.assertEqual(fitted(form, {"a": twelve, "b": "x"}, 35, shorter), {"a": twelve, "b": "x"})

    def test_twelve_spots_within_seconds(self):
        for kind in [WORDS, Kind.run("abc ", 0, 40) + Kind.run("abc ", 0, 40) + Kind.run("abc ", 1, 40)]:
            form = Form([[Field("a", kind)]])
            long = {"a": {"abcabcabc": "a"}}
            text = " ".join(["abcabcabc"] * 12)
            before = time.monotonic()
            for width in [119, 100, 40, 23]:
                self.assertLessEqual(len(fitted(form, {"a": text}, width, long)["a"]), width)
            with self.assertRaises(TooWide):
                fitted(form, {"a": text}, 22, long)
            self.assertLess(time.monotonic() - before, 20)

    def test_widths(self):
        form = Form.parse("{a}", {"a": WORDS})
        self.assertEqual(fitted(form, {"a": "b"}, 1, {}), {"a": "b"})
        self.assertEqual(fitted(form, {"a": "b" * 300}, 300, {}), {"a": "b" * 300})
        with self.assertRaises(TooWide):
            fitted(form, {"a": "b" * 301}, 300, {})
        for thing in [*PLAIN_OBJECTS, *NUMBERS, "", "5", 301, 0, -1, 10 ** 30, Signs("a"), ONE, form]:
            if type(thing) is int and 1 <= thing <= 300:
                continue
            with self.subTest(thing), self.assertRaises(BadNumber) as caught:
                fitted(form, {"a": "b"}, thing, {})
            self.assertIs(caught.exception.number, thing)

    def test_keys_of_other_fields(self):
        form = road_form()
        for key in ["", "a", "roads", "House", "\u00e4"]:
            for inner in [{}, {"long": "l"}, {1: 2}]:
                with self.assertRaises(Unknown) as caught:
                    fitted(form, {"road": 5}, None, {"road": {None: None}, key: inner, "zz": {}})
                self.assertEqual(caught.exception.name, min(key, "zz"))

    def test_wrong_short_words(self):
        form = Form.parse("{b} {a} [{c}]", {name: WORDS for name in "abc"})
        wrong = [("", "a"), ("ab", ""), ("ab", "ab"), ("a", "ab"), ("ab", "cd"), ("a b", "a"), ("abc", "a "), (" ab", "a"),
                 ("ab ", "a"), ("abc", " "), (1, "a"), (None, None), ("ab", 1), ("ab", None), ("ab", ["a"]), ("ab", True),
                 (("ab",), "a"), (True, "a"), ("ab", {}), ("ab", Signs("a")), ("ab", Mark("a")), (0, 0)]
        for long, short in wrong:
            for name in "abc":
                key = "".join([name])
                for shorter in [{key: {long: short}}, {key: {"long": "l", long: short}}, {"c": {long: short}, key: {long: short}}]:
                    with self.subTest((long, short)), self.assertRaises(BadShort) as caught:
                        fitted(form, {"a": "x", "b": "x"}, 300, shorter)
                    self.assertEqual(caught.exception.name, key)
        for long, short in [("ab", "a"), ("a\n", "b"), ("\u00e4\u00e4", "%"), ("abc", "\t")]:
            self.assertEqual(fitted(form, {"a": "x", "b": "x"}, 300, {"a": {long: short}}), {"a": "x", "b": "x"})


class OrderOfErrors(unittest.TestCase):
    def test_each_error_before_each_later_one(self):
        """Each error is provoked together with all choices of later ones."""
        form = Form.parse("{a}\n[{b}]", {"a": WORDS, "b": WORDS})
        many = " ".join(["ab"] * 13)
        later = itertools.product([False, True], repeat=5)
        for is_unknown, is_short, is_value, is_number, is_many in later:
            shorter = {"a": {"ab": "a"}}
            if is_unknown:
                shorter["c"] = {}
            if is_short:
                shorter["b"] = {"a": "b"}
            record = {"a": many if is_many else "ab ab ab", "b": "B" if is_value else "b"}
            width = 0 if is_number else 1
            wanted = next(error for flag, error in [(is_unknown, Unknown), (is_short, BadShort), (is_value, BadValue),
                                                    (is_number, BadNumber), (is_many, TooMany), (True, TooWide)] if flag)
            with self.assertRaises(wanted):
                fitted(form, record, width, shorter)

    def test_errors_of_write(self):
        form = Form.parse("{a}\n[{b}]", {"a": WORDS, "b": WORDS})
        for record, error, name in [({}, Missing, "a"), ({"a": "a", "c": "a"}, Unknown, "c"), ({"a": ""}, BadValue, "a"),
                                    ({"a": "a", "b": None}, BadValue, "b"), ({"b": "a"}, Missing, "a")]:
            for width in [0, 1, 300]:
                with self.assertRaises(error) as caught:
                    fitted(form, record, width, {"a": {"ab": "a"}})
                self.assertEqual(caught.exception.name, name)
        for width in [0, 300]:
            with self.assertRaises(TooLarge):
                fitted(form, {"a": "a" * 401}, width, {"a": {"a" * 401: "a"}})


class Arguments(unittest.TestCase):
    def test_what_is_passed_stays(self):
        form = road_form()
        record = {"road": "long street", "house": "7"}
        inner = {"street": "st", "long": "lg"}
        shorter = {"road": inner}
        for width in [10, 13]:
            found = fitted(shorter=shorter, width=width, record=record, form=form)
            self.assertIsNot(found, record)
            found["road"] = None
            found.clear()
        self.assertEqual([record, shorter, inner], [{"road": "long street", "house": "7"}, {"road": inner},
                                                    {"street": "st", "long": "lg"}])
        self.assertEqual(fitted(form, record, 13, shorter), record)

    def test_the_function_stands_in_the_module(self):
        self.assertEqual(module.fitted.__module__, "townlines.fitting")


if __name__ == "__main__":
    unittest.main()
