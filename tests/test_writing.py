"""Points 19 to 21: write, owner_row and spans."""

import itertools
import unittest

from by_hand import NO_SIGN_TEXTS, NUMBERS, PLAIN_OBJECTS
from forms_by_hand import owners_of, random_forms, records, small_forms, text_of
from townlines.errors import BadValue, Missing, TooLarge, Unknown
from townlines.forms import Form
from townlines.items import Field, Mark, Maybe
from townlines.kinds import Kind
from townlines.signs import Signs

A = Kind.run("a")
WORD = Kind.run(Signs.letters(), 1, None)
KINDS = {name: WORD for name in "abcdefghijklmnopqrstuvwxyz"}
DEEP = Form.parse("{a}[-{b}[+{c}{d}[/{e}]]]", KINDS)


def form_of(spelling):
    return Form.parse(spelling, KINDS)


def orders(record):
    """The record with each order of its keys."""
    return [dict(row) for row in itertools.permutations(record.items())]


class WritingCase(unittest.TestCase):
    def assert_error(self, error, name, form, record):
        """All three methods raise the same error, for each order of the keys."""
        for same in orders(record):
            before = dict(same)
            for call in [form.write, form.owner_row, form.spans]:
                with self.subTest(record=record, form=form.spelled()):
                    with self.assertRaises(error) as caught:
                        call(same)
                    if name is not None:
                        self.assertEqual(caught.exception.name, name)
            self.assertEqual(list(same.items()), list(before.items()))


class Texts(WritingCase):
    def check(self, form, longest):
        for record in records(form, longest):
            text, owners = text_of(form, record), owners_of(form, record)
            spans = {name: (owners.index(name), owners.index(name) + len(value)) for name, value in record.items()}
            for same in [record, dict(reversed(record.items()))]:
                self.assertEqual(form.write(same), text)
                self.assertEqual(form.owner_row(same), owners)
                self.assertEqual(form.spans(same), spans)

    def test_small_forms(self):
        for form in small_forms():
            self.check(form, 4)

    def test_drawn_forms(self):
        for form in random_forms(19, 80):
            self.check(form, 5)

    def test_by_name(self):
        form = form_of("{a}")
        self.assertEqual(form.write(record={"a": "x"}), "x")
        self.assertEqual(form.owner_row(record={"a": "x"}), ["a"])
        self.assertEqual(form.spans(record={"a": "x"}), {"a": (0, 1)})

    def test_groups(self):
        base = {"a": "x"}
        self.assertEqual(DEEP.write(base), "x")
        self.assertEqual(DEEP.write({**base, "b": "y"}), "x-y")
        self.assertEqual(DEEP.write({**base, "b": "y", "c": "z", "d": "u"}), "x-y+zu")
        self.assertEqual(DEEP.write({**base, "b": "y", "c": "z", "d": "u", "e": "vw"}), "x-y+zu/vw")

    def test_lines_that_are_left_out(self):
        form = form_of("[{a}]\n[{b}]\n[x{c}]\n[{d}][{e}]")
        for number in range(6):
            for names in itertools.combinations("abcde", number):
                record = {name: name.upper().lower() * 2 for name in names}
                lines = [record.get("a", ""), record.get("b", ""), "x" + record["c"] if "c" in record else "",
                         record.get("d", "") + record.get("e", "")]
                self.assertEqual(form.write(record), "\n".join(line for line in lines if line))

    def test_left_out_at_the_beginning_in_the_middle_and_at_the_end(self):
        self.assertEqual(form_of("[{a}]\nx").write({}), "x")
        self.assertEqual(form_of("[{a}]\n[{b}]\nx").write({}), "x")
        self.assertEqual(form_of("x\n[{a}]\ny").write({}), "x\ny")
        self.assertEqual(form_of("x\n[{a}]\n[{b}]\ny").write({}), "x\ny")
        self.assertEqual(form_of("x\n[{a}]").write({}), "x")
        self.assertEqual(form_of("x\n[{a}]\n[{b}]").write({}), "x")
        self.assertEqual(form_of("[{a}]\nx\n[{b}]\ny\n[{c}]").write({}), "x\ny")
        self.assertEqual(form_of("[{a}]\nx\n[{b}]\ny\n[{c}]").write({"b": "z"}), "x\nz\ny")

    def test_the_empty_text(self):
        for form in [form_of("[{a}]"), form_of("[{a}][{b}]"), form_of("[{a}]\n[x{b}[{c}]]\n[{d}]")]:
            self.assertEqual(form.write({}), "")
            self.assertEqual(form.owner_row({}), [])
            self.assertEqual(form.spans({}), {})

    def test_the_owners_of_marks_and_line_feeds(self):
        form = form_of("-{a}-\n[+{b}+]")
        self.assertEqual(form.owner_row({"a": "xy", "b": "z"}), ["", "a", "a", "", "", "", "b", ""])
        self.assertEqual(form.spans({"a": "xy", "b": "z"}), {"a": (1, 3), "b": (6, 7)})

    def test_what_is_returned_is_new(self):
        record = {"a": "x", "b": "y"}
        row, spans = DEEP.owner_row(record), DEEP.spans(record)
        row.append("z")
        row[0] = None
        spans["z"] = None
        self.assertEqual(DEEP.owner_row(record), ["a", "", "b"])
        self.assertEqual(DEEP.spans(record), {"a": (0, 1), "b": (2, 3)})
        self.assertEqual(record, {"a": "x", "b": "y"})

    def test_spans_are_tuples(self):
        self.assertIs(type(DEEP.spans({"a": "x"})["a"]), tuple)

    def test_the_example(self):
        town = Kind.run(Signs.letters(), 1, None)
        kinds = {"road": town, "house": Kind.run(Signs.digits(), 1, 3), "town": town}
        form = Form.parse("{road}[ {house}]\nto {town}", kinds)
        self.assertEqual(form.write({"town": "ulm", "road": "weg", "house": "7"}), "weg 7\nto ulm")
        self.assertEqual(form.owner_row({"town": "ulm", "road": "a"}), ["road", "", "", "", "", "town", "town", "town"])
        self.assert_error(Missing, "road", form, {"house": "7", "town": "ulm"})


class Errors(WritingCase):
    def test_the_least_unknown_name(self):
        self.assert_error(Unknown, "z", DEEP, {"a": "x", "z": "y"})
        self.assert_error(Unknown, "x", DEEP, {"z": "y", "x": "y", "y": "y", "a": "x"})
        self.assert_error(Unknown, "", DEEP, {"z": "y", "": "y", "A": "y"})
        self.assert_error(Unknown, "A", DEEP, {"z": "y", "aa": "y", "A": "y", "a": "x"})
        self.assert_error(Unknown, "aa", DEEP, {"z": "y", "aa": None, "a": "x", "b": "y"})
        self.assert_error(Unknown, "\xe4", DEEP, {"\xe4": "y", "a": "x"})
        self.assert_error(Unknown, "a", Form([[Mark("x")]]), {"b": "x", "a": "x"})

    def test_unknown_is_the_very_key(self):
        key = "".join(["no", "such", "field"])
        with self.assertRaises(Unknown) as caught:
            DEEP.write({"a": "x", key: "y"})
        self.assertIs(caught.exception.name, key)

    def test_a_missing_field_outside_of_groups(self):
        form = form_of("{b}[{c}]{a}\n{d}")
        self.assert_error(Missing, "b", form, {})
        self.assert_error(Missing, "b", form, {"a": "x", "d": "x", "c": "x"})
        self.assert_error(Missing, "a", form, {"b": "x", "c": "x"})
        self.assert_error(Missing, "a", form, {"b": "x"})
        self.assert_error(Missing, "d", form, {"b": "x", "a": "x", "c": "x"})

    def test_a_missing_field_of_a_group(self):
        form = form_of("[{a}{b}]\n[x{c}y{d}]")
        self.assert_error(Missing, "b", form, {"a": "x"})
        self.assert_error(Missing, "a", form, {"b": "x"})
        self.assert_error(Missing, "a", form, {"b": "x", "c": "x"})
        self.assert_error(Missing, "d", form, {"a": "x", "b": "x", "c": "x"})
        self.assert_error(Missing, "c", form, {"d": "x"})

    def test_a_missing_field_around_a_nested_group(self):
        self.assert_error(Missing, "b", DEEP, {"a": "x", "e": "x"})
        self.assert_error(Missing, "a", DEEP, {"e": "x"})
        self.assert_error(Missing, "c", DEEP, {"a": "x", "b": "x", "e": "x"})
        self.assert_error(Missing, "d", DEEP, {"a": "x", "b": "x", "e": "x", "c": "x"})
        self.assert_error(Missing, "b", DEEP, {"a": "x", "c": "x", "d": "x"})
        self.assert_error(Missing, "d", DEEP, {"a": "x", "b": "x", "c": "x"})

    def test_a_needed_field_that_stands_behind_the_inner_group(self):
        form = form_of("[[[{a}]{b}]{c}]")
        self.assert_error(Missing, "b", form, {"a": "x"})
        self.assert_error(Missing, "c", form, {"a": "x", "b": "x"})
        self.assert_error(Missing, "b", form, {"a": "x", "c": "x"})
        self.assertEqual(form.write({"c": "x"}), "x")

    def test_a_field_of_another_group_needs_nothing(self):
        form = form_of("[{a}[{b}]][{c}[{d}]]")
        self.assertEqual(form.write({"c": "x"}), "x")
        self.assert_error(Missing, "c", form, {"a": "x", "d": "x"})

    def test_missing_for_all_subsets(self):
        for spelling in ["{a}[{b}[{c}]{d}]", "[{a}[{b}{c}]][{d}]", "[[{a}]{b}[{c}]]\n{d}", "[{a}{b}]\n[[{c}]{d}]"]:
            form = form_of(spelling)
            for number in range(5):
                for names in itertools.combinations("abcd", number):
                    record = {name: "x" for name in names}
                    missing = [name for name in self.needed(form.lines, record) if name not in record]
                    if missing:
                        self.assert_error(Missing, missing[0], form, record)
                    else:
                        self.assertEqual(form.write(record), text_of(form, record))

    def needed(self, rows, record, asked=True):
        """The names of the needed fields in the order of the form."""
        names = []
        for row in rows:
            for item in row:
                if isinstance(item, Field):
                    names += [item.name] if asked else []
                elif isinstance(item, Maybe):
                    some = any("{" + name + "}" in Form([[item]]).spelled() for name in record)
                    names += self.needed([item.parts], record, some)
        return names

    def test_wrong_values(self):
        form = Form([[Field("a", WORD), Maybe([Field("b", A)])], [Field("c", Kind.run("0123456789", 2, 3))]])
        things = [*PLAIN_OBJECTS, *NUMBERS, *NO_SIGN_TEXTS, "", "B", Signs("a"), A, WORD, "a" * 1000 + "B"]
        for thing in things:
            self.assert_error(BadValue, "a", form, {"a": thing, "c": "12"})
            self.assert_error(BadValue, "a", form, {"a": thing, "b": thing, "c": thing})
            self.assert_error(BadValue, "b", form, {"a": "x", "b": thing, "c": thing})
            self.assert_error(BadValue, "c", form, {"a": "x", "c": thing})
        for value in ["1", "1234", "12a"]:
            self.assert_error(BadValue, "c", form, {"a": "x", "c": value})
        self.assertEqual(form.write({"a": "x", "b": "a", "c": "12"}), "xa\n12")

    def test_a_line_feed_is_in_no_value(self):
        self.assert_error(BadValue, "a", DEEP, {"a": "x\ny"})

    def test_the_first_wrong_value_in_the_order_of_the_form(self):
        form = form_of("{z}[{b}[{a}]]\n{y}")
        self.assert_error(BadValue, "z", form, {"z": 1, "b": 1, "a": 1, "y": 1})
        self.assert_error(BadValue, "b", form, {"z": "x", "b": 1, "a": 1, "y": 1})
        self.assert_error(BadValue, "a", form, {"z": "x", "b": "x", "a": 1, "y": 1})
        self.assert_error(BadValue, "y", form, {"z": "x", "b": "x", "a": "x", "y": 1})

    def test_which_error_is_first(self):
        self.assert_error(Unknown, "y", DEEP, {"y": "x", "b": 1})
        self.assert_error(Unknown, "z", DEEP, {"a": 1, "z": None})
        self.assert_error(Missing, "a", DEEP, {"b": 1, "c": "x" * 500})
        self.assert_error(Missing, "d", DEEP, {"a": 1, "b": 1, "c": 1})
        self.assert_error(BadValue, "b", DEEP, {"a": "x" * 500, "b": 1})
        self.assert_error(TooLarge, None, DEEP, {"a": "x" * 500, "b": "x"})

    def test_four_hundred_characters(self):
        form = form_of("{a}[-{b}]\n[{c}]")
        for record in [{"a": "x" * 400}, {"a": "x" * 200, "b": "y" * 199}, {"a": "x", "b": "y", "c": "z" * 396},
                       {"a": "x" * 398, "c": "z"}]:
            self.assertEqual(len(form.write(record)), 400)
            self.assertEqual(len(form.owner_row(record)), 400)
            self.assertEqual(set(form.spans(record)), set(record))
            for name in record:
                self.assert_error(TooLarge, None, form, {**record, name: record[name] + "x"})
        self.assert_error(TooLarge, None, form, {"a": "x" * 10000, "b": "x" * 10000})

    def test_the_line_feeds_count(self):
        form = form_of("{a}\n{b}\n{c}")
        self.assertEqual(len(form.write({"a": "x" * 396, "b": "x", "c": "x"})), 400)
        self.assert_error(TooLarge, None, form, {"a": "x" * 397, "b": "x", "c": "x"})


if __name__ == "__main__":
    unittest.main()
