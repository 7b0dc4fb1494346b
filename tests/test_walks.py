"""Points 29 and 30: reads, ends, next_signs, completion and least_text."""

import unittest

from by_hand import strings
from forms_by_hand import BAD_TEXTS, FREE, ONE, TWO, Walks, random_forms, readings_by_text, small_forms
from townlines import walks
from townlines.errors import BadText, NoReading
from townlines.forms import Form
from townlines.items import Field, Mark, Maybe
from townlines.kinds import Kind
from townlines.signs import Signs
from townlines.walks import completion, ends, least_text, next_signs, reads

FORMS = [*small_forms(), *random_forms(29, 120)]
TEXTS = list(strings("ab\n", 4))
MORE_TEXTS = ["c", "ac", "a ", " a", "a\n\nb", "\n\n", "a" * 30, "ab" * 15, "b\n" * 10, "abaab", "aaaaa", "bbbbb"]


class Reads(unittest.TestCase):
    def test_all_short_texts(self):
        for form in FORMS:
            readable = readings_by_text(form, 4)
            for text in TEXTS:
                self.assertIs(reads(form, text), text in readable, (form.spelled(), text))

    def test_other_texts(self):
        for form in FORMS:
            found = Walks(form)
            for text in MORE_TEXTS:
                self.assertIs(reads(form, text), found.reads(text), (form.spelled(), text))

    def test_every_written_text_is_readable(self):
        form = Form.parse("{a}[-{b}]\n[{c}]", {name: Kind.run(Signs.letters(), 1, None) for name in "abc"})
        for record in [{"a": "x" * 400}, {"a": "x", "b": "y" * 398}, {"a": "x", "c": "y" * 398}, {"a": "q"}]:
            text = form.write(record)
            self.assertIs(reads(form, text), True)
            self.assertIs(reads(form, text[:-1] + "-"), False)

    def test_by_name(self):
        self.assertIs(reads(text="a", form=Form([[Mark("a")]])), True)


class Ends(unittest.TestCase):
    def test_all_short_texts(self):
        for form in FORMS:
            found = Walks(form)
            for text in TEXTS + MORE_TEXTS:
                self.assertEqual(ends(form, text), sorted(found.ends(text)), (form.spelled(), text))

    def test_the_empty_text(self):
        for form in FORMS:
            self.assertEqual(ends(form, ""), [-1])
            self.assertIs(reads(form, ""), form.may_be_empty)

    def test_ascending_and_new(self):
        form = Form([[Field("f", Kind.run("a", 0, 3) + Kind.run("a", 1, 3))]])
        found = ends(form, "aa")
        self.assertEqual(found, [1, 3, 4])
        found.append(None)
        found[0] = 9
        self.assertEqual(ends(form, "aa"), [1, 3, 4])
        self.assertEqual(ends(text="aa", form=form), [1, 3, 4])

    def test_no_beginning(self):
        form = Form([[Mark("ab")]])
        for text in ["b", "aba", "ac", "\n", "ab\n", "a" * 400]:
            self.assertEqual(ends(form, text), [])

    def test_lists_of_many_places(self):
        kind = Kind.run("xy", 0, 40) + Kind.run("xy", 0, 40) + Kind.run("xy", 1, 40)
        form = Form([[Field("f", kind), Maybe([Field("g", Kind.run("xy", 1, None))])]])
        found = Walks(form)
        for text in ["x" * 7, "xy" * 25, "y" * 120, "x" * 130]:
            self.assertEqual(ends(form, text), sorted(found.ends(text)))


class NextSigns(unittest.TestCase):
    def test_all_short_texts(self):
        for form in FORMS:
            found = Walks(form)
            for text in TEXTS + MORE_TEXTS:
                with self.subTest(form=form.spelled(), text=text):
                    if not found.ends(text):
                        with self.assertRaises(NoReading):
                            next_signs(form, text)
                        continue
                    signs = "".join(sign for sign in "ab" if found.ends(text + sign))
                    result = next_signs(form, text)
                    self.assertIs(type(result), tuple)
                    self.assertEqual(result, (Signs(signs), bool(found.ends(text + "\n")), found.reads(text)))
                    self.assertEqual([type(part) for part in result], [Signs, bool, bool])

    def test_readable_texts_that_begin_so(self):
        """What can follow, against the readable texts themselves."""
        forms = [form for form in small_forms() if len(form.places()) <= 5]
        self.assertGreater(len(forms), 5)
        for form in forms:
            readable = list(readings_by_text(form, 8))
            for text in strings("ab\n", 2):
                longer = {other[len(text)] for other in readable if other.startswith(text) and other != text}
                if any(other.startswith(text) for other in readable):
                    signs = Signs("".join(sorted(longer - {"\n"})))
                    self.assertEqual(next_signs(form, text), (signs, "\n" in longer, text in readable))
                else:
                    with self.assertRaises(NoReading):
                        next_signs(form, text)

    def test_all_signs(self):
        form = Form([[Field("a", Kind.run(~Signs(), 1, None))], [Mark("x")]])
        self.assertEqual(next_signs(form, ""), (~Signs(), False, False))
        self.assertEqual(next_signs(form, "a~"), (~Signs(), True, False))
        self.assertEqual(next_signs(form, "a\n"), (Signs("x"), False, False))
        self.assertEqual(next_signs(form=form, text="a\nx"), (Signs(), False, True))

    def test_a_text_of_any_length_may_follow(self):
        form = Form([[Field("a", FREE), Mark("c" * 199)]])
        self.assertEqual(next_signs(form, "a" * 400), (Signs("abc"), False, False))
        self.assertEqual(next_signs(form, "a" * 399 + "c"), (Signs("c"), False, False))
        with self.assertRaises(NoReading):
            next_signs(form, "a" * 398 + "ca")


class Completion(unittest.TestCase):
    def test_all_short_texts(self):
        for form in FORMS:
            found = Walks(form)
            self.assertEqual(least_text(form), found.least_from(""))
            for text in TEXTS + MORE_TEXTS:
                self.assertEqual(completion(form, text), found.least_from(text), (form.spelled(), text))

    def test_readable_texts_that_begin_so(self):
        forms = [form for form in small_forms() if len(form.places()) <= 5]
        for form in forms:
            readable = sorted(readings_by_text(form, 8), key=lambda text: (len(text), text))
            self.assertEqual(least_text(form), readable[0])
            for text in strings("ab\n", 3):
                longer = [other for other in readable if other.startswith(text)]
                self.assertEqual(completion(form, text), longer[0] if longer else None)

    def test_a_readable_text_is_its_own_completion(self):
        for form in FORMS:
            for text in readings_by_text(form, 3):
                self.assertEqual(completion(form, text), text)

    def test_the_shortest_one_comes_first(self):
        form = Form([[Field("a", Kind.words(["ab", "aaaa", "b"])), Maybe([Mark("!"), Field("b", ONE)])]])
        self.assertEqual(least_text(form), "b")
        self.assertEqual([completion(form, text) for text in ["a", "aa", "aaaa!", "b!", "bb"]],
                         ["ab", "aaaa", "aaaa!a", "b!a", None])

    def test_the_line_feed_is_the_least_character(self):
        form = Form([[Mark("x"), Field("a", Kind.words([" ab", "a!c"]))], [Maybe([Field("b", Kind.run("a", 2, 2))])]])
        self.assertEqual(completion(form, "x"), "x ab")
        form = Form([[Mark("x"), Maybe([Mark(" "), Field("a", ONE)])], [Mark("a")]])
        self.assertEqual(least_text(form), "x\na")
        form = Form([[Mark("x"), Field("a", Kind.words(["b", "b  ", "b a"]))], [Field("b", TWO)]])
        self.assertEqual(completion(form, "xb"), "xb\na")
        form = Form([[Field("a", Kind.run("x", 1, 3))], [Field("b", ONE)]])
        self.assertEqual(completion(form, "x"), "x\na")

    def test_completions_of_more_than_400_characters(self):
        form = Form([[Field("a", FREE), Mark("c" * 199)]])
        self.assertEqual(completion(form, "a" * 400), "a" * 400 + "c" * 199)
        self.assertEqual(completion(form, "b" * 390 + "c" * 10), "b" * 390 + "c" * 199)
        self.assertIsNone(completion(form, "b" * 390 + "c" * 9 + "b"))
        self.assertEqual(least_text(form), "a" + "c" * 199)

    def test_long_least_texts(self):
        form = Form([[Field("a", Kind.run("b", 40, None) * 3)], [Field("c", Kind.run("ab", 40, 40)), Mark("d" * 39)]])
        self.assertEqual(least_text(form), "b" * 120 + "\n" + "a" * 40 + "d" * 39)
        self.assertEqual(completion(form, "b" * 130), "b" * 130 + "\n" + "a" * 40 + "d" * 39)

    def test_by_name(self):
        form = Form([[Mark("ab")]])
        self.assertEqual(completion(text="a", form=form), "ab")
        self.assertEqual(least_text(form=form), "ab")

    def test_lines_that_are_left_out(self):
        kinds = {name: FREE for name in "abc"}
        self.assertEqual(least_text(Form.parse("[{a}]\n[{b}]\n[{c}]", kinds)), "")
        self.assertEqual(least_text(Form.parse("[{a}]\n{b}\n[{c}]", kinds)), "a")
        self.assertEqual(least_text(Form.parse("[{a}]\n{b}c\n[{c}]\nb", kinds)), "ac\nb")
        self.assertEqual(completion(Form.parse("[{a}]\n{b}c\n[{c}]\nb", kinds), "a\n"), "a\nac\nb")


class Texts(unittest.TestCase):
    def test_what_no_text_is(self):
        form = Form([[Field("a", FREE)]])
        for function in [reads, ends, next_signs, completion]:
            for thing in BAD_TEXTS:
                with self.subTest(function, thing=thing), self.assertRaises(BadText):
                    function(form, thing)

    def test_four_hundred_characters_are_a_text(self):
        form = Form([[Field("a", FREE)]])
        self.assertIs(reads(form, "ab" * 200), True)
        self.assertIs(reads(form, "\n" * 400), False)
        self.assertEqual(ends(form, "a" * 400), [0])
        self.assertEqual(completion(form, "a" * 400), "a" * 400)

    def test_the_functions_stand_in_the_module(self):
        for name in ["reads", "ends", "next_signs", "completion", "least_text"]:
            self.assertEqual(getattr(walks, name).__module__, "townlines.walks")


if __name__ == "__main__":
    unittest.main()
