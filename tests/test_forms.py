"""Points 16 to 18 and 4: the class Form and forms made of forms."""

import unittest

from by_hand import NO_SIGN_TEXTS, NUMBERS, PLAIN_OBJECTS
from forms_by_hand import small_forms
from townlines.errors import BadForm, BadSigns, Unknown
from townlines.forms import Form
from townlines.items import Field, Mark, Maybe
from townlines.kinds import Kind
from townlines.signs import Signs

A = Kind.run("a")
FULL = Kind.run("a", 1, 40) * 3
KINDS = {name: A for name in "abcdefghijklmnopqrstuvwxyz"}
NO_LINES = [thing for thing in PLAIN_OBJECTS if not isinstance(thing, (list, tuple))] + [*NUMBERS, "", "a", A, Signs()]
NO_ITEMS = [thing for thing in PLAIN_OBJECTS if not isinstance(thing, (Field, Mark, Maybe))]
NO_ITEMS = [*NO_ITEMS, *NUMBERS, "", "a", "{a}", A, Signs("a")]


def field(name, kind=A):
    return Field(name, kind)


def form_of(spelling):
    return Form.parse(spelling, KINDS)


class FormCase(unittest.TestCase):
    def assert_bad_form(self, at, make):
        with self.assertRaises(BadForm) as caught:
            make()
        self.assertEqual(caught.exception.at, at)

    def assert_unknown(self, name, make):
        with self.assertRaises(Unknown) as caught:
            make()
        self.assertIs(caught.exception.name, name)


class Making(FormCase):
    def test_the_attribute(self):
        rows = [[Mark("x"), field("a")], (Maybe([field("b")]),)]
        for lines in [rows, tuple(rows)]:
            made = Form(lines)
            self.assertIs(type(made.lines), tuple)
            self.assertEqual(made.lines, ((Mark("x"), field("a")), (Maybe([field("b")]),)))
            self.assertEqual([type(line) for line in made.lines], [tuple, tuple])
        self.assertEqual(Form(lines=rows), Form(rows))

    def test_no_row_of_lines(self):
        for thing in NO_LINES:
            with self.subTest(thing):
                self.assert_bad_form(-1, lambda: Form(thing))

    def test_one_to_ten_lines(self):
        for number in range(1, 11):
            self.assertEqual(len(Form([[Mark("x")]] * number).lines), number)
        for lines in [[], (), [[Mark("x")]] * 11, ([Mark("x")],) * 11, [None] * 11, [[]] * 12]:
            self.assert_bad_form(-1, lambda: Form(lines))

    def test_lines_that_are_no_rows_of_items(self):
        for number in [1, 3, 10]:
            for at in range(number):
                for wrong in [*NO_LINES, [], ()]:
                    lines = [[Mark("x")]] * number
                    lines[at] = wrong
                    with self.subTest(wrong, at=at):
                        self.assert_bad_form(at, lambda: Form(lines))
                        self.assert_bad_form(at, lambda: Form(lines[:at + 1] + [[]] * (number - at - 1)))

    def test_lines_with_objects_that_are_no_items(self):
        for thing in NO_ITEMS:
            for row in [[thing], [thing, Mark("x")], [Mark("x"), field("a"), thing], (field("a"), thing, Mark("x"))]:
                for at in range(3):
                    lines = [[Mark("x")]] * 3
                    lines[at] = row
                    with self.subTest(thing, at=at):
                        self.assert_bad_form(at, lambda: Form(lines))

    def test_a_name_a_second_time(self):
        a, b, c = field("a"), field("b"), field("c")
        wrong = [
            (0, [[a, a]]), (0, [[a, b, Mark("x"), a], [b]]), (0, [[a, Maybe([a])]]), (0, [[Maybe([a]), Maybe([a])]]),
            (0, [[Maybe([a, a])]]), (0, [[Maybe([b, Maybe([a, Maybe([c, a])])])]]), (1, [[a], [a]]),
            (1, [[a], [b, Maybe([a])], [b]]), (2, [[a], [b], [c, Maybe([Mark("x"), b])]]), (1, [[Maybe([a])], [a]]),
            (9, [[field(name)] for name in "abcdefghi"] + [[Mark("x"), field("a", Kind.run("b"))]]),
        ]
        for at, lines in wrong:
            self.assert_bad_form(at, lambda: Form(lines))

    def test_the_first_wrong_line(self):
        a = field("a")
        self.assert_bad_form(1, lambda: Form([[a], [a], []]))
        self.assert_bad_form(1, lambda: Form([[a], [], [a]]))
        self.assert_bad_form(0, lambda: Form([[], [a], [a]]))
        self.assert_bad_form(0, lambda: Form([[a, None], [a]]))

    def test_twelve_fields(self):
        names = "abcdefghijklm"
        self.assertEqual(Form([[field(name) for name in names[:12]]]).names(), list(names[:12]))
        self.assertEqual(len(Form([[Maybe([field(name)])] for name in names[:10]]).names()), 10)
        for lines in [[[field(name) for name in names]], [[field(name) for name in names[:6]],
                      [Maybe([field(name) for name in names[6:]])]]]:
            self.assert_bad_form(-1, lambda: Form(lines))

    def test_two_hundred_places(self):
        right = [[[Mark("x" * 200)]], [[Mark("x" * 100), Mark("x" * 100)]], [[Mark("x" * 80), field("a", FULL)]],
                 [[Mark("x" * 99)], [Mark("x" * 100)]], [[Mark("x" * 19)]] * 9 + [[Mark("x" * 20)]],
                 [[field("a", Kind.run("a", 0, None) + A)] * 1 + [Mark("x" * 198)]],
                 [[field("a", FULL), Maybe([field("b", Kind.run("a", 40, 40)), Mark("y" * 40)])]]]
        for lines in right:
            self.assertEqual(len(Form(lines).places()), 200)
            self.assert_bad_form(-1, lambda: Form([lines[0] + [Mark("x")], *lines[1:]]))
            self.assert_bad_form(-1, lambda: Form([*lines[:-1], lines[-1] + [Mark("x")]]))
        self.assert_bad_form(-1, lambda: Form([[Mark("x" * 100)], [Mark("x" * 100)]]))
        self.assert_bad_form(-1, lambda: Form([[Mark("x" * 200)]] * 10))
        self.assert_bad_form(-1, lambda: Form([[Mark("x" * 200)] * 100]))

    def test_wrong_lines_come_before_size(self):
        self.assert_bad_form(2, lambda: Form([[Mark("x" * 200)], [Mark("x")], []]))
        self.assert_bad_form(1, lambda: Form([[field(name) for name in "abcdefghijklm"], [field("a")]]))

    def test_marks_side_by_side_are_joined(self):
        made = Form([[Mark("a"), Mark("b"), Mark("c"), field("a"), Mark("d"), Maybe([Mark("e"), Mark("f"), field("b")])],
                     [Mark("g"), Mark("h")]])
        self.assertEqual(made.lines, ((Mark("abc"), field("a"), Mark("d"), Maybe([Mark("ef"), field("b")])),
                                      (Mark("gh"),)))
        self.assertEqual(made.lines[0][0].text, "abc")
        self.assertEqual(len(made.lines[0]), 4)

    def test_changed_arguments_do_not_matter(self):
        line = [Mark("x"), Mark("y"), field("a")]
        lines = [line, [field("b")]]
        made = Form(lines)
        self.assertEqual(lines, [[Mark("x"), Mark("y"), field("a")], [field("b")]])
        line.append(field("c"))
        lines.append([Mark("z")])
        lines[1] = None
        self.assertEqual(made.lines, ((Mark("xy"), field("a")), (field("b"),)))
        self.assertEqual(made.names(), ["a", "b"])
        self.assertEqual(made.write({"a": "a", "b": "a"}), "xya\na")

    def test_names(self):
        made = form_of("z{z}[{b}[{a}]{y}]\n[{x}]\n{c}")
        self.assertEqual(made.names(), ["z", "b", "a", "y", "x", "c"])
        names = made.names()
        names.append("d")
        names[0] = "e"
        self.assertEqual(made.names(), ["z", "b", "a", "y", "x", "c"])

    def test_a_form_without_fields(self):
        made = Form([[Mark("x")], [Mark("y")]])
        self.assertEqual(made.names(), [])
        self.assertEqual(made.write({}), "x\ny")

    def test_equal_if_the_lines_are_equal(self):
        self.assertIs(form_of("a{b}[{c}]\n{d}") == form_of("a{b}[{c}]\n{d}"), True)
        self.assertIs(form_of("a{b}") != form_of("a{b}"), False)
        forms = ["{a}", "{b}", "a", "a{a}", "{a}a", "[{a}]", "{a}[{b}]", "[{a}][{b}]", "{a}\n{b}", "{a}{b}", "[{a}]\n{b}"]
        for one in forms:
            for two in forms:
                self.assertIs(form_of(one) == form_of(two), one == two)
                self.assertIs(form_of(one) != form_of(two), one != two)
        self.assertIs(Form([[field("a")]]) == Form([[field("a", Kind.run("ab"))]]), False)

    def test_the_methods_stand_in_the_class(self):
        names = ["__init__", "__add__", "__eq__", "parse", "may_be_empty", "names", "with_mark", "without", "write",
                 "owner_row", "spans", "spelled", "places", "firsts", "lasts", "after"]
        for name in names:
            self.assertIn(name, vars(Form))
        self.assertEqual(Form.__module__, "townlines.forms")
        self.assertIsInstance(vars(Form)["may_be_empty"], property)
        self.assertIsInstance(vars(Form)["parse"], staticmethod)


class Sums(FormCase):
    def test_the_lines_of_both(self):
        one, two = form_of("a{a}\n[{b}]"), form_of("{c}[{d}]\nb")
        self.assertEqual((one + two).lines, one.lines + two.lines)
        self.assertEqual((two + one).lines, two.lines + one.lines)
        self.assertIs(type(one + two), Form)
        self.assertEqual([one, two], [form_of("a{a}\n[{b}]"), form_of("{c}[{d}]\nb")])

    def test_marks_of_different_lines_stay(self):
        self.assertEqual((form_of("a") + form_of("b")).lines, ((Mark("a"),), (Mark("b"),)))

    def test_a_sum_is_made_as_a_form(self):
        for one in small_forms()[::5]:
            two = Form([[Mark("b"), Field("x", A)], [Maybe([Field("y", A)])]])
            self.assertEqual(one + two, Form(one.lines + two.lines))
            self.assertEqual((one + two).places(), one.places() + [(None, "\n")] + two.places())

    def test_ten_lines(self):
        ten = form_of("\n".join(["a"] * 4)) + form_of("\n".join(["b"] * 6))
        self.assertEqual(len(ten.lines), 10)
        self.assert_bad_form(-1, lambda: ten + form_of("a"))
        self.assert_bad_form(-1, lambda: form_of("{a}") + ten)

    def test_a_name_in_both(self):
        self.assert_bad_form(1, lambda: form_of("{a}") + form_of("{a}"))
        self.assert_bad_form(3, lambda: form_of("{a}\nb") + form_of("b\n{c}[{b}[{a}]]\n{d}"))
        one = form_of("{a}")
        self.assert_bad_form(1, lambda: one + one)

    def test_the_number_of_lines_comes_first(self):
        self.assert_bad_form(-1, lambda: form_of("\n".join(["{a}"] + ["b"] * 9)) + form_of("{a}"))

    def test_fields_and_places(self):
        six, more = form_of("{a}{b}{c}{d}{e}{f}"), form_of("{g}{h}{i}{j}{k}{l}")
        self.assertEqual(len((six + more).names()), 12)
        self.assert_bad_form(-1, lambda: six + more + form_of("{m}"))
        one, two = Form([[Mark("x" * 100)]]), Form([[Mark("x" * 99)]])
        self.assertEqual(len((one + two).places()), 200)
        self.assert_bad_form(-1, lambda: one + one)

    def test_in_place(self):
        held = old = form_of("a")
        held += form_of("b")
        self.assertEqual(held, form_of("a\nb"))
        self.assertEqual(old, form_of("a"))


class WithMark(FormCase):
    def test_directly_before_the_field(self):
        cases = [
            ("{a}", "a", "-{a}"), ("{a}{b}", "b", "{a}-{b}"), ("{a}[{b}[{c}]]", "b", "{a}[-{b}[{c}]]"),
            ("{a}[{b}[{c}]]", "c", "{a}[{b}[-{c}]]"), ("{a}[{b}[{c}[{d}]]]", "d", "{a}[{b}[{c}[-{d}]]]"),
            ("{a}\n[x{b}]\n{c}", "b", "{a}\n[x-{b}]\n{c}"), ("{a}\n{b}", "b", "{a}\n-{b}"), ("[{a}]{b}", "b", "[{a}]-{b}"),
        ]
        for spelling, name, expected in cases:
            made = form_of(spelling)
            self.assertEqual(made.with_mark(name, "-").spelled(), expected)
            self.assertEqual(made.with_mark(text="-", name=name), form_of(expected))
            self.assertEqual(made, form_of(spelling))

    def test_marks_that_it_brings_together_are_joined(self):
        made = form_of("x{a}[y{b}]").with_mark("a", "--").with_mark("b", "++")
        self.assertEqual(made.lines, ((Mark("x--"), field("a"), Maybe([Mark("y++"), field("b")])),))

    def test_no_such_field(self):
        made = form_of("{a}[{b}]")
        for thing in [*PLAIN_OBJECTS, *NUMBERS, "", "c", "A", "ab", "{a}", "%", Signs("a"), A]:
            for text in ["-", "", None]:
                with self.subTest(thing):
                    self.assert_unknown(thing, lambda: made.with_mark(thing, text))

    def test_wrong_marks(self):
        made = Form([[Mark("x" * 198), field("a")]])
        for thing in [*PLAIN_OBJECTS, *NUMBERS, *NO_SIGN_TEXTS, "", "a" * 201, Signs("a"), A]:
            with self.subTest(thing), self.assertRaises(BadSigns):
                made.with_mark("a", thing)

    def test_two_hundred_places(self):
        for made in [Form([[Mark("x" * 150), field("a")]]), Form([[Maybe([Mark("x" * 150), field("a")])]]),
                     Form([[Mark("x" * 100)], [Maybe([field("a"), Mark("x" * 49)])]])]:
            self.assertEqual(len(made.with_mark("a", "-" * 49).places()), 200)
            for text in ["-" * 50, "-" * 200]:
                self.assert_bad_form(-1, lambda: made.with_mark("a", text))

    def test_what_it_writes(self):
        made = form_of("{a}[{b}]").with_mark("b", " - ")
        self.assertEqual(made.write({"a": "a", "b": "a"}), "a - a")
        self.assertEqual(made.write({"a": "a"}), "a")


class Without(FormCase):
    def test_the_field_is_left_out(self):
        cases = [
            ("{a}{b}", "a", "{b}"), ("{a}{b}", "b", "{a}"), ("x{a}", "a", "x"), ("{a}[{b}{c}]", "b", "{a}[{c}]"),
            ("{a}\nx{b}y", "b", "{a}\nxy"), ("{a}[ - {b}[{c}]{d}]", "d", "{a}[ - {b}[{c}]]"),
            ("{a}[{b}x[{c}]]", "c", "{a}[{b}x]"), ("[{a}[{b}[x{c}]]]", "c", "[{a}[{b}]]"),
        ]
        for spelling, name, expected in cases:
            made = form_of(spelling)
            self.assertEqual(made.without(name).spelled(), expected)
            self.assertEqual(made.without(name=name), form_of(expected))
            self.assertEqual(made, form_of(spelling))

    def test_groups_without_a_field_are_left_out_with_everything(self):
        cases = [
            ("{a}[x{b}y]", "b", "{a}"), ("{a}[x{b}[y{c}[{d}]]]", "b", "{a}"), ("{a}[{b}[y{c}[{d}]]]", "c", "{a}[{b}]"),
            ("{a}[{b}x[{c}]y]z", "b", "{a}z"), ("[{a}[{b}]][{c}]", "a", "[{c}]"), ("[[{a}]{b}][{c}]", "b", "[{c}]"),
        ]
        for spelling, name, expected in cases:
            self.assertEqual(form_of(spelling).without(name), form_of(expected))

    def test_lines_without_items_are_left_out(self):
        cases = [
            ("{a}\n{b}", "a", "{b}"), ("{a}\n{b}", "b", "{a}"), ("{a}\n{b}\n{c}", "b", "{a}\n{c}"),
            ("x\n[{a}[{b}]]\ny", "a", "x\ny"), ("[{a}[{b}]]\n{c}", "b", "[{a}]\n{c}"), ("[{a}][{b}]\n{c}", "a", "[{b}]\n{c}"),
        ]
        for spelling, name, expected in cases:
            self.assertEqual(form_of(spelling).without(name), form_of(expected))

    def test_marks_that_it_brings_together_are_joined(self):
        cases = [
            ("x{a}y", "a", (Mark("xy"),)), ("x[{a}]y{b}z", "b", (Mark("x"), Maybe([field("a")]), Mark("yz"))),
            ("x[y{a}z]w", "a", (Mark("xw"),)), ("[{b}x{a}y]", "a", (Maybe([field("b"), Mark("xy")]),)),
            ("[{b}x[{a}[{c}]]y]", "a", (Maybe([field("b"), Mark("xy")]),)),
        ]
        for spelling, name, expected in cases:
            self.assertEqual(form_of(spelling).without(name).lines, (expected,))

    def test_no_line_is_left(self):
        for spelling in ["{a}", "[{a}]", "[x{a}[{b}]]", "[[{b}]{a}y]"]:
            self.assert_bad_form(-1, lambda: form_of(spelling).without("a"))
        self.assertEqual(form_of("{a}\nx").without("a").spelled(), "x")

    def test_no_such_field(self):
        made = form_of("{a}[{b}]")
        for thing in [*PLAIN_OBJECTS, *NUMBERS, "", "c", "A", "ab", "{a}", Signs("a"), A]:
            with self.subTest(thing):
                self.assert_unknown(thing, lambda: made.without(thing))
        self.assert_unknown("b", lambda: form_of("{a}").without("b"))

    def test_all_names_of_small_forms(self):
        for made in small_forms():
            for name in made.names():
                kept = [row for line in made.lines for row in [self.row_without(line, name)] if row]
                if kept:
                    self.assertEqual(made.without(name), Form(kept))
                else:
                    self.assert_bad_form(-1, lambda: made.without(name))

    def row_without(self, row, name):
        kept = []
        for item in row:
            if isinstance(item, Maybe):
                parts = self.row_without(item.parts, name)
                kept += [Maybe(parts)] if any(isinstance(part, Field) for part in parts) else []
            elif item != Field(name, getattr(item, "kind", A)):
                kept.append(item)
        return kept


if __name__ == "__main__":
    unittest.main()
