"""Points 31 and 32: count_readings, readings, only_reading, owners and sure."""

import unittest

from by_hand import PLAIN_OBJECTS, strings
from forms_by_hand import BAD_TEXTS, FREE, ONE, TWO, random_forms, readings_by_text, small_forms, text_of
from townlines import readings as module
from townlines.errors import BadNumber, BadText, NoReading, NotSingle, TooMany
from townlines.forms import Form
from townlines.items import Field, Mark, Maybe
from townlines.kinds import Kind
from townlines.readings import count_readings, only_reading, owners, readings, sure
from townlines.signs import Signs

FORMS = [*small_forms(), *random_forms(31, 250)]
TEXTS = list(strings("ab\n", 4))


def form_of(spelling, kind=FREE):
    return Form.parse(spelling, {name: kind for name in "abcdefghijklmnopqrstuvwxyz"})


def spans_of(row):
    """The spans of the fields in a row of owners."""
    return {name: (row.index(name), row.index(name) + row.count(name)) for name in set(row) - {""}}


class AllShortTexts(unittest.TestCase):
    @classmethod
    def setUpClass(cls):
        cls.found = [(form, readings_by_text(form, 4)) for form in FORMS]

    def cases(self):
        for form, found in self.found:
            for text in TEXTS:
                yield form, text, found.get(text, [])

    def test_there_are_texts_with_several_readings(self):
        numbers = [len(rows) for _, _, rows in self.cases()]
        self.assertGreater(sum(number > 2 for number in numbers), 100)
        self.assertGreater(max(numbers), 5)

    def test_count_readings(self):
        for form, text, rows in self.cases():
            self.assertEqual(count_readings(form, text), len(rows), (form.spelled(), text))

    def test_readings(self):
        for form, text, rows in self.cases():
            self.assertEqual(readings(form, text), [record for _, record in rows], (form.spelled(), text))

    def test_most(self):
        for form, text, rows in self.cases():
            if len(rows) > 1:
                self.assertEqual(readings(form, text, most=len(rows)), [record for _, record in rows])
                with self.assertRaises(TooMany):
                    readings(form, text, most=len(rows) - 1)
                with self.assertRaises(TooMany):
                    readings(form, text, most=1)
            else:
                self.assertEqual(readings(form, text, most=1), [record for _, record in rows])

    def test_only_reading(self):
        for form, text, rows in self.cases():
            if len(rows) == 1:
                self.assertEqual(only_reading(form, text), rows[0][1])
            elif rows:
                with self.assertRaises(NotSingle) as caught:
                    only_reading(form, text)
                self.assertEqual(caught.exception.text, text)
            else:
                with self.assertRaises(NoReading):
                    only_reading(form, text)

    def test_owners(self):
        for form, text, rows in self.cases():
            if rows:
                expected = [sorted({row[at] for row, _ in rows}) for at in range(len(text))]
                self.assertEqual(owners(form, text), expected, (form.spelled(), text))
            else:
                with self.assertRaises(NoReading):
                    owners(form, text)

    def test_sure(self):
        for form, text, rows in self.cases():
            if rows:
                spans = [spans_of(row) for row, _ in rows]
                expected = {name: text[span[0]:span[1]] for name, span in spans[0].items()
                            if all(other.get(name) == span for other in spans)}
                self.assertEqual(sure(form, text), expected, (form.spelled(), text))
            else:
                with self.assertRaises(NoReading):
                    sure(form, text)

    def test_readings_write_the_text(self):
        for form, text, rows in self.cases():
            for record in readings(form, text):
                self.assertEqual(text_of(form, record), text)
                self.assertEqual(form.write(record), text)


class OneReadingForSeveralWalks(unittest.TestCase):
    def test_runs_that_divide_a_value_in_several_ways(self):
        kind = Kind.run("a", 0, None) + Kind.run("a", 0, 3) + Kind.run("a", 1, None) | Kind.run("a", 1, 5)
        form = Form([[Field("f", kind)]])
        for text in ["a", "aa", "a" * 5, "a" * 17]:
            self.assertEqual(count_readings(form, text), 1)
            self.assertEqual(readings(form, text, most=1), [{"f": text}])
            self.assertEqual(only_reading(form, text), {"f": text})
            self.assertEqual(owners(form, text), [["f"]] * len(text))
            self.assertEqual(sure(form, text), {"f": text})

    def test_two_such_fields(self):
        kind = Kind.run("a", 0, None) + Kind.run("a", 1, None) | Kind.words(["a", "aa"])
        form = Form([[Field("f", kind), Field("e", kind)]])
        self.assertEqual(readings(form, "aaaa"), [{"f": "a", "e": "aaa"}, {"f": "aa", "e": "aa"}, {"f": "aaa", "e": "a"}])


class OrderOfReadings(unittest.TestCase):
    def test_by_owners(self):
        form = form_of("{b}{a}")
        self.assertEqual(readings(form, "aba"), [{"b": "a", "a": "ba"}, {"b": "ab", "a": "a"}])
        form = form_of("{a}{b}")
        self.assertEqual(readings(form, "aba"), [{"a": "ab", "b": "a"}, {"a": "a", "b": "ba"}])

    def test_marks_come_before_fields(self):
        form = form_of("{a}[b{c}]")
        self.assertEqual(readings(form, "aba"), [{"a": "a", "c": "a"}, {"a": "aba"}])
        form = form_of("[a{z}]{a}")
        self.assertEqual(readings(form, "aba"), [{"z": "b", "a": "a"}, {"a": "aba"}])

    def test_the_order_of_names_and_not_that_of_fields(self):
        form = form_of("[{z}][{y}][{x}]")
        self.assertEqual(readings(form, "ab"), [
            {"x": "ab"}, {"y": "a", "x": "b"}, {"y": "ab"}, {"z": "a", "x": "b"}, {"z": "a", "y": "b"}, {"z": "ab"}])

    def test_names_of_several_letters(self):
        kinds = {"ab": FREE, "b": FREE, "aaa": FREE}
        form = Form.parse("[{ab}][{b}][{aaa}]", kinds)
        self.assertEqual(readings(form, "ab"), [
            {"aaa": "ab"}, {"ab": "a", "aaa": "b"}, {"ab": "ab"}, {"ab": "a", "b": "b"}, {"b": "a", "aaa": "b"},
            {"b": "ab"}])

    def test_the_interface(self):
        kinds = {"a": Kind.run("xy", 1, 2), "b": Kind.run("y", 1, 2), "c": Kind.words(["z"])}
        form = Form.parse("{a}{b}[{c}]", kinds)
        self.assertEqual(readings(form, "xyyz"), [{"a": "xy", "b": "y", "c": "z"}, {"a": "x", "b": "yy", "c": "z"}])
        self.assertEqual(owners(form, "xyyz"), [["a"], ["a", "b"], ["b"], ["c"]])
        self.assertEqual(sure(form, "xyyz"), {"c": "z"})


class Sure(unittest.TestCase):
    def test_a_field_that_some_readings_lack(self):
        form = form_of("[{a}][{b}]")
        self.assertEqual(sure(form, "a"), {})
        self.assertEqual(owners(form, "a"), [["a", "b"]])

    def test_the_same_value_at_different_spans(self):
        form = Form.parse("{a}{b}{c}", {"a": TWO, "b": ONE, "c": TWO})
        self.assertEqual(readings(form, "aaaa"), [{"a": "aa", "b": "a", "c": "a"}, {"a": "a", "b": "a", "c": "aa"}])
        self.assertEqual(sure(form, "aaaa"), {})
        self.assertEqual(sure(form, "aaa"), {"a": "a", "b": "a", "c": "a"})

    def test_a_field_between_marks(self):
        form = form_of("{a}{b}\n{c}\n{d}{e}")
        self.assertEqual(sure(form, "aba\nab\nbab"), {"c": "ab"})

    def test_the_empty_text(self):
        form = form_of("[{a}]")
        self.assertEqual([owners(form, ""), sure(form, ""), readings(form, ""), only_reading(form, "")], [[], {}, [{}], {}])
        self.assertEqual(count_readings(form, ""), 1)
        form = form_of("{a}")
        self.assertEqual([readings(form, ""), count_readings(form, "")], [[], 0])
        for function in [owners, sure, only_reading]:
            with self.assertRaises(NoReading):
                function(form, "")

    def test_form_without_fields(self):
        form = Form([[Mark("ab")], [Mark("c")]])
        self.assertEqual([owners(form, "ab\nc"), sure(form, "ab\nc"), only_reading(form, "ab\nc")], [[[""]] * 4, {}, {}])


class Most(unittest.TestCase):
    # {a}{b}{c} with at most `longest` signs for c has this number of readings for n signs: the sum of n - 1 - c.
    def form(self, longest):
        return Form([[Field("a", FREE), Field("b", FREE), Field("c", Kind.run("ab", 1, longest))]])

    def test_exactly_a_thousand_and_one_more(self):
        text = "a" * 204
        self.assertEqual(count_readings(self.form(5), text), 1000)
        found = readings(self.form(5), text, most=1000)
        self.assertEqual(len(found), 1000)
        self.assertEqual(len({tuple(sorted(record.items())) for record in found}), 1000)
        rows = [self.form(5).owner_row(record) for record in found]
        self.assertEqual(rows, sorted(rows))
        with self.assertRaises(TooMany):
            readings(self.form(5), text, most=999)
        text = "a" * 148
        self.assertEqual(count_readings(self.form(7), text), 1001)
        with self.assertRaises(TooMany):
            readings(self.form(7), text, most=1000)

    def test_a_hundred_without_an_argument(self):
        form = form_of("{a}{b}")
        self.assertEqual(len(readings(form, "a" * 101)), 100)
        with self.assertRaises(TooMany):
            readings(form, "a" * 102)
        self.assertEqual(len(readings(form, "a" * 102, most=101)), 101)
        self.assertEqual(len(readings(form, "a" * 400, most=399)), 399)

    def test_wrong_numbers(self):
        form = form_of("{a}{b}")
        for thing in [*PLAIN_OBJECTS, 0, -1, 1001, 1002, 10 ** 30, "", "1", Signs("a"), ONE]:
            for text in ["", "a", "ab", "a" * 400]:
                with self.subTest(thing), self.assertRaises(BadNumber) as caught:
                    readings(form, text, most=thing)
                self.assertIs(caught.exception.number, thing)

    def test_both_ends(self):
        form = form_of("{a}{b}")
        self.assertEqual(readings(form, "ab", most=1), [{"a": "a", "b": "b"}])
        self.assertEqual(readings(form, "ab", most=1000), [{"a": "a", "b": "b"}])
        self.assertEqual(readings(form, "a", most=1), [])

    def test_most_is_passed_by_name_only(self):
        with self.assertRaises(TypeError):
            readings(form_of("{a}"), "a", 5)


class Arguments(unittest.TestCase):
    def test_what_no_text_is(self):
        form = form_of("{a}{b}")
        for function in [count_readings, readings, only_reading, owners, sure]:
            for thing in BAD_TEXTS:
                with self.subTest(function, thing=thing), self.assertRaises(BadText):
                    function(form, thing)

    def test_the_text_comes_before_the_number(self):
        for thing in BAD_TEXTS:
            for most in [None, 0, "a", 1001]:
                with self.assertRaises(BadText):
                    readings(form_of("{a}"), thing, most=most)

    def test_by_name(self):
        form = form_of("{a}")
        self.assertEqual(count_readings(text="ab", form=form), 1)
        self.assertEqual(readings(most=1, text="ab", form=form), [{"a": "ab"}])
        self.assertEqual(only_reading(text="ab", form=form), {"a": "ab"})
        self.assertEqual(owners(text="ab", form=form), [["a"], ["a"]])
        self.assertEqual(sure(text="ab", form=form), {"a": "ab"})

    def test_the_text_of_the_error_is_the_very_object(self):
        text = "".join(["a"] * 5)
        with self.assertRaises(NotSingle) as caught:
            only_reading(form_of("{a}{b}"), text)
        self.assertIs(caught.exception.text, text)

    def test_what_is_returned_is_new(self):
        form = form_of("{a}{b}[c{d}]")
        for _ in range(2):
            found = readings(form, "abca")
            self.assertEqual(found, [{"a": "a", "b": "b", "d": "a"}])
            found[0]["a"] = None
            found.append(None)
            shares = owners(form, "abca")
            self.assertEqual(shares, [["a"], ["b"], [""], ["d"]])
            shares[0].append("z")
            shares[1][0] = "z"
            self.assertEqual(shares[2:], [[""], ["d"]])
            record = only_reading(form, "abca")
            self.assertEqual(record, {"a": "a", "b": "b", "d": "a"})
            record.clear()
            certain = sure(form, "abca")
            self.assertEqual(certain, {"a": "a", "b": "b", "d": "a"})
            certain["z"] = 1

    def test_each_list_of_owners_is_its_own(self):
        shares = owners(Form([[Field("a", FREE), Maybe([Mark("c"), Field("b", ONE)])]]), "aaa")
        shares[0].append("z")
        self.assertEqual(shares, [["a", "z"], ["a"], ["a"]])

    def test_the_functions_stand_in_the_module(self):
        for name in ["count_readings", "readings", "only_reading", "owners", "sure"]:
            self.assertEqual(getattr(module, name).__module__, "townlines.readings")


if __name__ == "__main__":
    unittest.main()
