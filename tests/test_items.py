"""Points 14 to 16 and 4: Field, Mark and Maybe."""

import unittest

from by_hand import ALL_SIGNS, NO_SIGN_TEXTS, NUMBERS, PLAIN_OBJECTS
from townlines.errors import BadItem, BadKind, BadName, BadSigns
from townlines.forms import Form
from townlines.items import Field, Mark, Maybe
from townlines.kinds import Kind
from townlines.signs import Signs

A = Kind.run("a")
FREE = Kind.run(Signs.letters(), 1, None)
FORTY = Kind.run("a", 1, 40)
NO_NAMES = ["", "A", "aB", "a1", "1", "a b", " a", "a_b", "a-b", "abcdefghijklm", "\xe4", "a\n", "\n", "%", "{a}", "\u0430"]
NO_ITEMS = [*[thing for thing in PLAIN_OBJECTS if not isinstance(thing, (Field, Mark, Maybe))],
            *NUMBERS, "", "a", "{a}", A, Signs("a")]


def field(name="a", kind=A):
    return Field(name, kind)


class Fields(unittest.TestCase):
    def test_attributes(self):
        made = Field("town", FREE)
        self.assertEqual((made.name, made.kind), ("town", FREE))
        self.assertIs(made.kind, FREE)

    def test_by_name(self):
        made = Field(kind=A, name="town")
        self.assertEqual((made.name, made.kind), ("town", A))

    def test_names_of_one_to_twelve_letters(self):
        letters = "abcdefghijklmnopqrstuvwxyz"
        for name in [*letters, "ab", letters[:11], letters[:12], letters[14:], "zzzzzzzzzzzz"]:
            self.assertEqual(Field(name, A).name, name)

    def test_other_strings(self):
        for name in [*NO_NAMES, *NO_SIGN_TEXTS]:
            with self.subTest(name), self.assertRaises(BadName) as caught:
                Field(name, A)
            self.assertIs(caught.exception.name, name)

    def test_other_objects_as_a_name(self):
        for thing in [*PLAIN_OBJECTS, *NUMBERS, Signs("a"), A]:
            with self.subTest(thing), self.assertRaises(BadName) as caught:
                Field(thing, A)
            self.assertIs(caught.exception.name, thing)

    def test_a_wrong_kind(self):
        for thing in [*PLAIN_OBJECTS, *NUMBERS, "", "a", Signs("a"), A.alternatives()]:
            with self.subTest(thing), self.assertRaises(BadKind):
                Field("a", thing)

    def test_a_kind_with_the_empty_word(self):
        for kind in [Kind.run("a", 0, 1), Kind.run("a", 0, None), Kind.words(["a"]) | Kind.run("b", 0, 2),
                     Kind.run("a", 0, 1) + Kind.run("b", 0, 1), Kind.run("a", 0, None) * 9]:
            with self.assertRaises(BadKind):
                Field("a", kind)
        self.assertEqual(Field("a", Kind.run("a", 0, 1) + A).name, "a")

    def test_the_name_comes_first(self):
        for kind in [None, Kind.run("a", 0, 1), "a"]:
            with self.assertRaises(BadName):
                Field("A", kind)

    def test_equal_if_name_and_kind_are_equal(self):
        self.assertIs(Field("a", Kind.run("ab")) == Field("a", Kind.run("ba")), True)
        self.assertIs(Field("a", A) == Field("b", A), False)
        self.assertIs(Field("a", A) == Field("a", Kind.run("a", 1, 2)), False)
        self.assertIs(Field("a", A) != Field("a", A), False)


class Marks(unittest.TestCase):
    def test_the_attribute(self):
        for text in ["a", " ", ALL_SIGNS, "a" * 200, "{}[]\\", ALL_SIGNS * 2]:
            self.assertEqual(Mark(text).text, text)
        self.assertEqual(Mark(text="ab").text, "ab")

    def test_wrong_lengths(self):
        for text in ["", "a" * 201, "a" * 1000]:
            with self.assertRaises(BadSigns):
                Mark(text)

    def test_other_objects(self):
        for thing in [*NO_SIGN_TEXTS, *PLAIN_OBJECTS, *NUMBERS, Signs("a"), A]:
            with self.subTest(thing), self.assertRaises(BadSigns):
                Mark(thing)

    def test_equal_if_the_texts_are_equal(self):
        self.assertIs(Mark("ab") == Mark("a" + "b"), True)
        self.assertIs(Mark("ab") == Mark("ba"), False)
        self.assertIs(Mark("ab") != Mark("ab"), False)


class Groups(unittest.TestCase):
    def test_the_attribute(self):
        parts = [Mark("x"), field("a"), Maybe([field("b")])]
        for row in [parts, tuple(parts)]:
            made = Maybe(row)
            self.assertIs(type(made.parts), tuple)
            self.assertEqual(made.parts, tuple(parts))
        self.assertEqual(Maybe(parts=parts), Maybe(parts))

    def test_no_row(self):
        rows = [thing for thing in [*PLAIN_OBJECTS, *NUMBERS, "", "a", A, Signs("a")]
                if not isinstance(thing, (list, tuple))]
        for thing in rows:
            with self.subTest(thing), self.assertRaises(BadItem) as caught:
                Maybe(thing)
            self.assertEqual(caught.exception.at, -1)

    def test_an_empty_row(self):
        for row in [[], ()]:
            with self.assertRaises(BadItem) as caught:
                Maybe(row)
            self.assertEqual(caught.exception.at, -1)

    def test_objects_that_are_no_items(self):
        for thing in NO_ITEMS:
            for length in [1, 2, 5]:
                for at in range(length):
                    row = [field("abcde"[index]) for index in range(length)]
                    row[at] = thing
                    for parts in [row, tuple(row), row + [thing], row + [None, field("f")]]:
                        with self.subTest(thing, at=at), self.assertRaises(BadItem) as caught:
                            Maybe(parts)
                        self.assertEqual(caught.exception.at, at)

    def test_the_index_is_that_of_the_row_before_marks_are_joined(self):
        with self.assertRaises(BadItem) as caught:
            Maybe([Mark("x"), Mark("y"), field(), Mark("z"), "z"])
        self.assertEqual(caught.exception.at, 4)

    def test_objects_come_before_the_other_errors(self):
        for parts, at in [([Mark("x"), None], 1), ([Mark("a" * 200), Mark("b"), field(), 1], 3), ([Mark("x"), []], 1)]:
            with self.assertRaises(BadItem) as caught:
                Maybe(parts)
            self.assertEqual(caught.exception.at, at)
        deep = Maybe([field("a"), Maybe([field("b"), Maybe([field("c")])])])
        with self.assertRaises(BadItem) as caught:
            Maybe([deep, "a"])
        self.assertEqual(caught.exception.at, 1)

    def test_no_field_directly_among_the_parts(self):
        for parts in [[Mark("x")], [Maybe([field()])], [Mark("x"), Maybe([field()]), Mark("y")], (Mark("x"),)]:
            with self.assertRaises(BadItem) as caught:
                Maybe(parts)
            self.assertEqual(caught.exception.at, -1)

    def test_three_deep(self):
        one = Maybe([field("a")])
        two = Maybe([one, field("b")])
        three = Maybe([field("c"), two, Maybe([field("d")])])
        self.assertEqual(three.parts, (field("c"), two, Maybe([field("d")])))
        for parts in [[field("e"), three], [three, field("e")], [field("e"), one, Mark("x"), three]]:
            with self.assertRaises(BadItem) as caught:
                Maybe(parts)
            self.assertEqual(caught.exception.at, -1)

    def test_two_hundred_places(self):
        full = Kind.run("a", 1, 40) * 3
        self.assertEqual(len(Maybe([Mark("x" * 199), field()]).parts), 2)
        self.assertEqual(len(Maybe([Mark("x" * 80), field("a", full)]).parts), 2)
        inner = Maybe([Mark("x" * 100), field("b")])
        self.assertEqual(len(Maybe([Mark("x" * 98), inner, field()]).parts), 3)
        self.assertEqual(len(Maybe([Mark("x" * 78), field("a", full), field("b"), Mark("y")]).parts), 4)
        for parts in [[Mark("x" * 200), field()], [Mark("x" * 81), field("a", full)], [Mark("x" * 99), inner, field()],
                      [Mark("x" * 100), Mark("y" * 100), field()], [field("a", full), field("b", full)],
                      [field(), Mark("x" * 200), Mark("x" * 200)],
                      [Mark("x" * 161), field("a", Kind.run("a", 40, None))]]:
            with self.assertRaises(BadItem) as caught:
                Maybe(parts)
            self.assertEqual(caught.exception.at, -1)

    def test_one_name_twice_is_no_error_of_the_group(self):
        made = Maybe([field("a"), field("a"), Maybe([field("a")])])
        self.assertEqual(len(made.parts), 3)

    def test_marks_side_by_side_are_joined(self):
        made = Maybe([Mark("a"), Mark("b"), field("a"), Mark("c"), Mark("d"), Mark("e"), Maybe([field("b")]), Mark("f")])
        self.assertEqual(made.parts, (Mark("ab"), field("a"), Mark("cde"), Maybe([field("b")]), Mark("f")))
        self.assertEqual([part.text for part in made.parts if isinstance(part, Mark)], ["ab", "cde", "f"])

    def test_marks_in_different_rows_are_not_joined(self):
        inner = Maybe([Mark("b"), field("b"), Mark("c")])
        made = Maybe([field("a"), Mark("a"), inner, Mark("d")])
        self.assertEqual(made.parts, (field("a"), Mark("a"), inner, Mark("d")))

    def test_two_hundred_marks(self):
        made = Maybe([Mark("x")] * 199 + [field()])
        self.assertEqual(made.parts, (Mark("x" * 199), field()))

    def test_a_changed_row_does_not_matter(self):
        row = [Mark("x"), Mark("y"), field()]
        made = Maybe(row)
        self.assertEqual(row, [Mark("x"), Mark("y"), field()])
        row.append(field("b"))
        row[0] = None
        self.assertEqual(made.parts, (Mark("xy"), field()))

    def test_equal_if_the_parts_are_equal(self):
        self.assertIs(Maybe([field(), Mark("ab")]) == Maybe((field(), Mark("a"), Mark("b"))), True)
        self.assertIs(Maybe([field(), Mark("ab")]) == Maybe([field(), Mark("a")]), False)
        self.assertIs(Maybe([field(), Mark("a")]) == Maybe([Mark("a"), field()]), False)
        self.assertIs(Maybe([field()]) == Maybe([field(), Maybe([field("b")])]), False)
        self.assertIs(Maybe([field()]) != Maybe([field()]), False)


class Equality(unittest.TestCase):
    def test_equal_to_objects_of_the_same_class_only(self):
        made = [field("b"), Mark("b"), Maybe([field("b")]), Form([[Mark("b")]]), Form([[field("b")]]), A, Signs("b")]
        for one in made:
            for thing in [*PLAIN_OBJECTS, *NUMBERS, "", "b", *made]:
                if thing is not one:
                    with self.subTest(one, thing=thing):
                        self.assertIs(one == thing, False)
                        self.assertIs(thing == one, False)
                        self.assertIs(one != thing, True)

    def test_classes_and_methods_stand_in_the_module(self):
        for made in [Field, Mark, Maybe]:
            self.assertEqual(made.__module__, "townlines.items")
            for name in ["__init__", "__eq__"]:
                self.assertIn(name, vars(made))


if __name__ == "__main__":
    unittest.main()
