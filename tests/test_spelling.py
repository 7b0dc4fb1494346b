"""Points 22 and 23: spelled and parse."""

import random
import unittest

from by_hand import ALL_SIGNS, NO_SIGN_TEXTS, NUMBERS, PLAIN_OBJECTS
from forms_by_hand import all_fields, random_forms, small_forms
from townlines.errors import BadForm
from townlines.forms import Form
from townlines.items import Field, Mark, Maybe
from townlines.kinds import Kind
from townlines.signs import Signs

A = Kind.run("a")
KINDS = {name: A for name in "abcdefghijklmnopqrstuvwxyz"}
RIGHT = ["x", "y", "- -", "\\{", "[{i}]", "{j}", "[{k}[{l}]]", "z", "!", "~"]


def kinds_of(form):
    return {field.name: field.kind for line in form.lines for field in all_fields(line)}


class Spelled(unittest.TestCase):
    def test_fields_groups_and_marks(self):
        form = Form([[Mark("a b"), Field("town", A), Maybe([Mark(", "), Field("b", A), Maybe([Field("c", A)])])],
                     [Maybe([Field("d", A)]), Mark("!")]])
        self.assertEqual(form.spelled(), "a b{town}[, {b}[{c}]]\n[{d}]!")

    def test_the_five_signs(self):
        for sign in "{}[]\\":
            self.assertEqual(Form([[Mark(sign)]]).spelled(), "\\" + sign)
        self.assertEqual(Form([[Mark("{a}[b]\\c"), Field("a", A)]]).spelled(), "\\{a\\}\\[b\\]\\\\c{a}")

    def test_each_other_sign(self):
        for sign in ALL_SIGNS:
            if sign not in "{}[]\\":
                self.assertEqual(Form([[Mark(sign)]]).spelled(), sign)

    def test_joined_marks(self):
        self.assertEqual(Form([[Mark("a"), Mark("b"), Field("c", A)]]).spelled(), "ab{c}")


class Parsed(unittest.TestCase):
    def check(self, form):
        parsed = Form.parse(form.spelled(), kinds_of(form))
        self.assertEqual(parsed, form)
        self.assertEqual(parsed.lines, form.lines)
        self.assertIs(type(parsed), Form)
        self.assertEqual(parsed.places(), form.places())

    def test_what_is_spelled_is_parsed(self):
        for form in [*small_forms(), *random_forms(22, 200)]:
            self.check(form)

    def test_all_signs_in_marks(self):
        self.check(Form([[Mark(ALL_SIGNS)], [Mark(ALL_SIGNS[::-1])]]))
        draw = random.Random(23)
        for _ in range(50):
            text = "".join(draw.choice(ALL_SIGNS + "{}[]\\" * 20) for _ in range(draw.randint(1, 60)))
            self.check(Form([[Mark(text), Field("a", A), Maybe([Mark(text), Field("b", A), Mark(text)])]]))

    def test_large_forms(self):
        full = Kind.run("a", 1, 40) * 3
        self.check(Form([[Mark("{" * 200)]]))
        self.check(Form([[Field("abcdefghijkl", full), Maybe([Field("b", Kind.run("b", 40, 40)), Mark("\\" * 40)])]]))
        self.check(Form([[Field(name, A)] for name in "abcdefghij"]))
        self.check(Form([[Field(name, A) for name in "abcdefghijkl"]]))

    def test_marks_with_backslashes(self):
        form = Form.parse("\\{\\}\\[\\]\\\\a{a}\\{b\\}", {"a": A})
        self.assertEqual(form.lines, ((Mark("{}[]\\a"), Field("a", A), Mark("{b}")),))

    def test_by_name(self):
        self.assertEqual(Form.parse(kinds={"a": A}, text="x{a}"), Form([[Mark("x"), Field("a", A)]]))

    def test_kinds_that_are_not_used_may_be_anything(self):
        kinds = {"a": A, "b": None, "": [], "%": 1, "B": "c", "c": Kind.run("a", 0, 1)}
        self.assertEqual(Form.parse("{a}", kinds).names(), ["a"])
        self.assertEqual(Form.parse("x", {"a": None}).names(), [])

    def test_changed_kinds_do_not_matter(self):
        kinds = {"a": A}
        form = Form.parse("{a}", kinds)
        kinds["a"] = None
        kinds.clear()
        self.assertEqual(form, Form([[Field("a", A)]]))

    def test_the_kinds_do_not_change(self):
        kinds = dict(KINDS)
        Form.parse("{a}[{b}]\n{c}", kinds)
        self.assertEqual(kinds, KINDS)
        self.assertEqual(list(kinds), list(KINDS))

    def test_three_deep(self):
        form = Form.parse("[{a}[{b}[{c}]]]", KINDS)
        self.assertEqual(form.lines[0][0].parts[1].parts[1].parts, (Field("c", A),))


class Wrong(unittest.TestCase):
    def assert_wrong(self, at, text, kinds=KINDS):
        with self.subTest(text=text):
            with self.assertRaises(BadForm) as caught:
                Form.parse(text, kinds)
            self.assertEqual(caught.exception.at, at)

    def check_line(self, line, kinds=KINDS):
        """The line is wrong as the only, the first, a middle and the last line, and together with a second one."""
        kinds = {**kinds, **{name: A for name in "ijkl"}}
        self.assert_wrong(0, line, kinds)
        for number in [2, 5, 10]:
            for at in {0, 1, number // 2, number - 1}:
                lines = RIGHT[:number]
                lines[at] = line
                self.assert_wrong(at, "\n".join(lines), kinds)
                for later in range(at + 1, number):
                    self.assert_wrong(at, "\n".join([*lines[:later], "", *lines[later + 1:]]), kinds)
                    self.assert_wrong(at, "\n".join([*lines[:later], line, *lines[later + 1:]]), kinds)

    def test_the_right_lines_are_right(self):
        self.assertEqual(len(Form.parse("\n".join(RIGHT), KINDS).lines), 10)

    def test_an_empty_line(self):
        self.check_line("")
        self.assert_wrong(1, "a\n")
        self.assert_wrong(0, "\na")
        self.assert_wrong(1, "a\n\nb")

    def test_characters_that_are_no_signs(self):
        for text in NO_SIGN_TEXTS:
            if "\n" not in text:
                self.check_line(text)
                self.check_line("{a}" + text)
                self.check_line("[{a}" + text + "]")
        for char in ["\r", "\x0b", "\x0c", "\x85", "\u2028", "\x1c"]:
            self.assert_wrong(0, "a" + char + "b")
            self.assert_wrong(1, "x\na" + char + "b")

    def test_backslashes(self):
        for line in ["\\", "\\a", "a\\", "\\ {a}", "\\\\\\", "\\-", "\\n", "[{a}\\]", "[{a}]\\", "\\\\\\a", "{a}\\\\\\",
                     "\\%", "\\\"", "[{a}\\x]", "\\{\\}\\"]:
            self.check_line(line)

    def test_brackets(self):
        for line in ["}", "]", "{", "[", "{a", "{a}}", "[{a}]]", "[[{a}]", "[{a}", "a]", "a}", "{a}]", "[{a}}]", "{[a]}",
                     "{a]", "[a}", "\\{a}", "\\[{a}]", "{a}{", "{a}[", "][", "}{", "]{a}[", "[{a}][", "x[", "[]]", "[{a\\}]"]:
            self.check_line(line)

    def test_names(self):
        for line in ["{}", "{A}", "{a b}", "{1}", "{abcdefghijklm}", "{ a}", "{a }", "{a-b}", "{{a}}", "{[a]}", "{a\\}}",
                     "{\\a}", "{\xe4}", "{a%}", "{{a}", "{a{b}}", "x{}", "[{}]", "[{a}{B}]"]:
            self.check_line(line)
            self.check_line(line, {**KINDS, line[1:-1]: A, "{a": A, "A": A, "": A})

    def test_names_without_a_kind(self):
        self.check_line("{ab}")
        self.check_line("{a}", {"b": A})
        self.check_line("[{a}{b}]", {"a": A})
        self.check_line("[{a}[x{b}]]", {"a": A, "bb": A})

    def test_values_that_are_no_kinds_of_fields(self):
        kinds = [Kind.run("a", 0, 1), Kind.run("a", 0, None) * 3, Kind.words(["b"]) | Kind.run("a", 0, 2)]
        for thing in [*PLAIN_OBJECTS, *NUMBERS, "", "a", Signs("a"), *kinds]:
            self.assert_wrong(0, "{a}", {"a": thing})
            self.assert_wrong(1, "x\n{a}", {"a": thing})
            self.assert_wrong(2, "x\n{b}\n[{c}[x{a}]]\n{z}", {"a": thing, "b": A, "c": A})

    def test_groups_without_a_field_of_their_own(self):
        for line in ["[]", "[a]", "[[{a}]]", "[a[{a}]]", "{a}[]", "[{a}[]]", "[{a}[b]]", "[{a}[[{b}]]]", "[{a}[{b}[ ]]]",
                     "[\\{a\\}]", "[[{a}]x]", "{a}[b[{c}]d]"]:
            self.check_line(line)

    def test_four_deep(self):
        for line in ["[{a}[{b}[{c}[{d}]]]]", "[[[[{a}]{b}]{c}]{d}]", "x[{a}][{b}[[{c}[{d}]]{e}]]"]:
            self.check_line(line)

    def test_a_name_a_second_time(self):
        for line in ["{a}{a}", "{a}[{a}]", "[{a}]x[{a}]", "[{a}{b}[{a}]]", "{b}[{a}[{b}]]", "[[{a}]{a}]"]:
            self.check_line(line)
        self.assert_wrong(1, "{a}\n{a}")
        self.assert_wrong(2, "{a}\n{b}\n[{c}[x{b}]]")
        self.assert_wrong(2, "{a}\nx\n{a}\n{a}")
        self.assert_wrong(9, "\n".join(["{" + name + "}" for name in "abcdefghia"]))
        self.assert_wrong(1, "[{a}]\n[{b}[{c}[{a}]]]")

    def test_two_lines_that_are_wrong_in_different_ways(self):
        wrong = ["", "%", "\\a", "}", "{A}", "[a]", "{b}{b}"]
        for one in wrong:
            for two in wrong:
                self.assert_wrong(0, "\n".join([one, two]))
                self.assert_wrong(1, "\n".join(["x", one, "y", two]))

    def test_eleven_lines(self):
        self.assertEqual(len(Form.parse("\n".join(["x"] * 10), {}).lines), 10)
        self.assert_wrong(-1, "\n".join(["x"] * 11))
        self.assert_wrong(-1, "\n".join([""] * 11))
        self.assert_wrong(-1, "\n".join(["x"] * 10) + "\n")
        self.assert_wrong(-1, "%\n" + "\n".join(["{a}"] * 10))
        self.assert_wrong(-1, "\n" * 1000)
        self.assert_wrong(0, "\n" * 9)

    def test_twelve_fields(self):
        names = "abcdefghijklm"
        self.assertEqual(len(Form.parse("".join("{" + name + "}" for name in names[:12]), KINDS).names()), 12)
        self.assert_wrong(-1, "".join("{" + name + "}" for name in names))
        self.assert_wrong(-1, "\n".join(["{a}{b}{c}[{d}[{e}]]", "{f}{g}{h}", "[{i}{j}]\n[{k}][{l}]\n{m}"]))

    def test_two_hundred_places(self):
        full = {"a": Kind.run("a", 1, 40) * 3, "b": A}
        right = ["x" * 200, "\\{" * 200, "[{b}" + "x" * 199 + "]", "[x[" + "y" * 197 + "{b}]{c}]", "{a}" + "x" * 80,
                 "x" * 99 + "\n" + "x" * 100, "[{a}" + "y" * 80 + "]"]
        for text in right:
            kinds = {**KINDS, **full}
            self.assertEqual(len(Form.parse(text, kinds).places()), 200)
            self.assert_wrong(-1, "x" + text, kinds)
            self.assert_wrong(-1, text + "x", kinds)
            self.assert_wrong(-1, "{z}" + text, kinds)
        self.assert_wrong(-1, "x" * 201)
        self.assert_wrong(-1, "[{b}" + "x" * 200 + "]")
        self.assert_wrong(-1, "[{b}[{c}[{d}" + "x" * 300 + "]]]")
        self.assert_wrong(-1, "x" * 100 + "\n" + "x" * 100)
        self.assert_wrong(-1, "x" * 100000)

    def test_wrong_lines_come_before_size(self):
        for large in ["x" * 201, "x" * 5000, "[{b}" + "x" * 200 + "]", "".join("{" + name + "}" for name in "abcdefghijklm")]:
            for wrong in ["", "%", "\\a", "}", "{A}", "[z]", "{y}{y}", "{b}{b}"]:
                self.assert_wrong(1, large + "\n" + wrong)
                self.assert_wrong(0, wrong + "\n" + large)
                self.assert_wrong(2, large + "\n" + "x" * 201 + "\n" + wrong)


if __name__ == "__main__":
    unittest.main()
