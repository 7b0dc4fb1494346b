"""Points 29 to 32 for texts of 100 to 400 characters and for forms with up to 200 places."""

import math
import random
import time
import unittest

from townlines.errors import NoReading, NotSingle, TooMany
from townlines.forms import Form
from townlines.items import Field, Mark, Maybe
from townlines.kinds import Kind
from townlines.readings import count_readings, only_reading, owners, readings, sure
from townlines.walks import completion, ends, next_signs, reads

NAMES = "abcdefghijkl"
FREE = Kind.run("xy", 1, None)
SECONDS = 10


def in_line(kind, number=12):
    return Form([[Field(name, kind) for name in NAMES[:number]]])


def drawn(length, seed, signs="xy"):
    draw = random.Random(seed)
    return "".join(draw.choice(signs) for _ in range(length))


class LongTexts(unittest.TestCase):
    def within_seconds(self, call):
        before = time.monotonic()
        result = call()
        self.assertLess(time.monotonic() - before, SECONDS)
        return result

    def check(self, form, text, number):
        """All functions of readings, for a text with so many of them."""
        self.assertEqual(self.within_seconds(lambda: count_readings(form, text)), number)
        self.assertIs(self.within_seconds(lambda: reads(form, text)), number > 0)
        self.within_seconds(lambda: ends(form, text))
        if number > 1000:
            with self.assertRaises(TooMany):
                self.within_seconds(lambda: readings(form, text, most=1000))
            with self.assertRaises(TooMany):
                self.within_seconds(lambda: readings(form, text, most=1))
        else:
            found = self.within_seconds(lambda: readings(form, text, most=1000))
            self.assertEqual(len(found), number)
            for record in found:
                self.assertEqual(form.write(record), text)
            rows = [form.owner_row(record) for record in found]
            self.assertEqual(rows, sorted(rows))
        if number > 1:
            with self.assertRaises(NotSingle):
                self.within_seconds(lambda: only_reading(form, text))
        for call in [lambda: owners(form, text), lambda: sure(form, text)]:
            if number:
                self.within_seconds(call)
            else:
                with self.assertRaises(NoReading):
                    self.within_seconds(call)

    def test_twelve_fields_side_by_side(self):
        form = in_line(FREE)
        for length in [100, 250, 400]:
            self.check(form, drawn(length, length), math.comb(length - 1, 11))
        self.assertEqual(owners(form, "x" * 400)[200], list(NAMES))
        self.assertEqual(owners(form, "x" * 400)[1], ["a", "b"])
        self.assertEqual(owners(form, "x" * 400)[0], ["a"])
        self.assertEqual(sure(form, "x" * 400), {})
        self.check(form, "x" * 399 + "z", 0)
        self.check(form, "z" + "x" * 399, 0)
        self.check(form, "x" * 200 + "\n" + "x" * 199, 0)

    def test_twelve_groups(self):
        form = Form([[Maybe([Field(name, FREE)]) for name in NAMES]])
        self.check(form, "x" * 400, sum(math.comb(12, n) * math.comb(399, n - 1) for n in range(1, 13)))
        self.assertEqual(owners(form, "x" * 400), [list(NAMES)] * 400)

    def test_as_many_readings_as_a_form_can_have(self):
        form = Form([[Field("a", FREE), Maybe([Field("b", FREE), Maybe([Field("c", FREE)])]),
                      *[Maybe([Field(name, FREE)]) for name in NAMES[3:]]]])
        number = sum(math.comb(9, n) * (math.comb(399, n) + math.comb(399, n + 1) + math.comb(399, n + 2))
                     for n in range(10))
        self.assertGreater(number, 10 ** 20)
        self.check(form, "x" * 400, number)

    def test_more_than_ten_to_the_fifty_walks(self):
        kind = Kind.run("xy", 0, None) * 5 + Kind.run("xy", 1, None)
        form = in_line(kind * 2)
        self.assertEqual(len(form.places()), 144)
        # Each field has as many walks as there are ways to divide its word among its runs; only the readings count.
        self.assertGreater(math.comb(400 - 24 + 143, 143), 10 ** 50)
        self.check(form, "x" * 400, math.comb(400 - 12 - 1, 11))

    def test_one_value_with_more_than_ten_to_the_fifty_walks(self):
        kind = Kind.run("x", 0, None) * 9 + Kind.run("x", 0, 40) * 2 + Kind.run("x", 0, None) * 8 + Kind.run("x")
        form = Form([[Field("a", kind)]])
        self.check(form, "x" * 400, 1)
        self.assertEqual(only_reading(form, "x" * 400), {"a": "x" * 400})
        self.check(form, "x" * 399 + "y", 0)

    def test_two_hundred_places(self):
        bounded = Kind.run("xy", 0, 40) + Kind.run("xy", 0, 40) + Kind.run("xy", 1, 39)
        form = Form([[Field("a", FREE), Field("b", bounded), Field("c", Kind.run("xy", 1, 40) + Kind.run("xy", 1, 39)),
                      Field("d", FREE)]])
        self.assertEqual(len(form.places()), 200)
        number = sum(400 - b - c - 1 for b in range(1, 120) for c in range(2, 80))
        self.check(form, "x" * 400, number)
        self.check(form, drawn(400, 1), number)

    def test_optional_signs(self):
        kind = Kind.run("xy", 0, 1) * 9 + Kind.run("xy", 0, 1) * 8 + Kind.run("xy") * 2
        form = in_line(kind, 10)
        self.assertEqual(len(form.places()), 190)
        numbers = {0: 1}
        for _ in range(10):
            longer = {}
            for length, number in numbers.items():
                for more in range(2, 20):
                    longer[length + more] = longer.get(length + more, 0) + number
            numbers = longer
        self.check(form, "x" * 100, numbers[100])
        self.check(form, drawn(180, 2), numbers[180])
        self.check(form, "x" * 190, 1)
        self.check(form, "x" * 191, 0)

    def test_words_that_depend_on_a_sign_far_back(self):
        kind = Kind.run("xy", 0, None) + Kind.run("x") + Kind.run("xy", 13, 13)
        form = in_line(kind)
        text = "x" * 400
        self.check(form, text, math.comb(400 - 12 * 13 - 1, 11))
        text = drawn(400, 3)
        self.assertEqual(self.by_lengths(form, text, 14), count_readings(form, text))
        self.check(form, text, self.by_lengths(form, text, 14))
        text = ("y" * 13 + "x") * 28
        self.check(form, text, self.by_lengths(form, text, 14))

    def by_lengths(self, form, text, back):
        """The number of ways to cut the text into words of at least `back` signs with an x `back` signs before the end."""
        numbers = [1] + [0] * len(text)
        for _ in form.names():
            longer = [0] * (len(text) + 1)
            for stop in range(back, len(text) + 1):
                if text[stop - back] == "x":
                    longer[stop] = sum(numbers[:stop - back + 1])
            numbers = longer
        return numbers[-1]

    def test_ten_lines(self):
        kind = Kind.run("xy", 2, None) + Kind.run("x", 1, None) + Kind.run("xy", 0, 5) | Kind.run("y", 3, None)
        form = Form([[Maybe([Field(name, kind)])] for name in NAMES[:10]])
        text = "\n".join(["xyx" * 13] * 10)
        self.assertEqual(len(text), 399)
        self.check(form, text, 1)
        self.assertEqual(only_reading(form, text), {name: "xyx" * 13 for name in NAMES[:10]})
        self.assertEqual(sure(form, text), {name: "xyx" * 13 for name in NAMES[:10]})
        self.check(form, "\n".join(["xyx" * 10] * 5), math.comb(10, 5))
        self.check(form, "\n".join(["xyx" * 10] * 11), 0)
        self.check(form, "\n".join(["xyx" * 10] * 5) + "\n", 0)

    def test_marks_that_look_like_values(self):
        form = Form([[Mark("x" * 20), Field("a", FREE), Mark("x" * 40), Maybe([Mark("x" * 30), Field("b", FREE),
                                                                                Mark("x" * 60)]), Field("c", FREE)]])
        self.check(form, "x" * 400, (400 - 60 - 1) + math.comb(400 - 150 - 1, 2))
        self.check(form, "x" * 300, (300 - 60 - 1) + math.comb(300 - 150 - 1, 2))
        self.check(form, "x" * 152, 152 - 60 - 1)

    def test_one_reading_of_four_hundred_characters(self):
        form = Form([[Field("a", FREE), Mark("-"), Field("b", FREE)], [Field("c", Kind.run("z", 1, None))]])
        text = "xy" * 100 + "-" + "y" * 99 + "\n" + "z" * 99
        self.assertEqual(len(text), 400)
        self.check(form, text, 1)
        self.assertEqual(sure(form, text), {"a": "xy" * 100, "b": "y" * 99, "c": "z" * 99})
        self.check(form, text[:-1], 1)
        self.check(form, text[:-1] + "-", 0)

    def test_what_can_follow(self):
        form = in_line(Kind.run("xy", 0, 8) + Kind.run("xy", 1, 8))
        self.assertEqual(len(form.places()), 192)
        for text in ["x" * 12, drawn(100, 5), drawn(191, 6)]:
            self.assertEqual([len(part) if hasattr(part, "least") else part for part in next_signs(form, text)],
                             [2, False, True])
        self.assertEqual(next_signs(form, "x" * 192)[0].spelled(), "")
        self.assertEqual(self.within_seconds(lambda: completion(form, "y" * 3)), "yyy" + "x" * 9)
        self.assertIsNone(completion(form, "x" * 193))


if __name__ == "__main__":
    unittest.main()
