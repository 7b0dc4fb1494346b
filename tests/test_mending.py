"""Points 55 to 57: slips, mended, slips_certificate and is_slips_certificate."""

import random
import time
import unittest

from by_hand import NUMBERS, PLAIN_OBJECTS, strings
from forms_by_hand import BAD_TEXTS, FREE, ONE, TWO, Walks, random_forms, readings_by_text, small_forms
from pairs_by_hand import order
from townlines import mending as module
from townlines.errors import BadText
from townlines.forms import Form
from townlines.items import Field, Mark, Maybe
from townlines.kinds import Kind
from townlines.mending import is_slips_certificate, mended, slips, slips_certificate
from townlines.signs import Signs
from townlines.walks import least_text, reads

FORMS = [*small_forms(), *random_forms(55, 120)]
TEXTS = ["", "a", "b", "\n", "c", "aa", "ba", "ab", "a\n", "\nb", "xa", "a a", "bba", "aab", "a\nb", "b\n\n", "cab", "~~~", "abab"]
LONGEST = 6


def distance(text, other):
    """The fewest changes that turn one text into another."""
    row = list(range(len(other) + 1))
    for at, char in enumerate(text):
        earlier, row = row, [at + 1]
        for index, sign in enumerate(other):
            row.append(min(earlier[index] + (char != sign), earlier[index + 1] + 1, row[index] + 1))
    return row[-1]


def table_by_hand(form, text):
    """The table of point 56, reckoned change by change, and the fewest changes of the whole text."""
    found = Walks(form)
    size = len(found.places)
    known = {(0, -1): 0}
    newest, number = {(0, -1)}, 0
    while newest:
        waiting = list(newest)
        while waiting:
            at, place = waiting.pop()
            for target in found.after[place]:
                state = (at + 1, target)
                if at < len(text) and text[at] in found.places[target][1] and state not in known:
                    known[state] = number
                    waiting.append(state)
                    newest.add(state)
        number += 1
        reached = set()
        for at, place in newest:
            reached |= {(at, target) for target in found.after[place]}
            if at < len(text):
                reached |= {(at + 1, target) for target in found.after[place]} | {(at + 1, place)}
        newest = reached - set(known)
        known.update((state, number) for state in newest)
    table = [[known[at, place] for place in range(-1, size)] for at in range(len(text) + 1)]
    ending = [place for place in range(-1, size) if place in found.lasts or (place == -1 and found.may_be_empty)]
    return min(table[-1][1 + place] for place in ending), table


def judged(form, text, number, table):
    """Point 57, for a number and a table of integers of the right size."""
    found = Walks(form)
    places = range(-1, len(found.places))
    if table[0][0] > 0:
        return False
    for at in range(len(text) + 1):
        for place in places:
            entry = table[at][1 + place]
            if at < len(text) and table[at + 1][1 + place] > entry + 1:
                return False
            for target in found.after[place]:
                if table[at][1 + target] > entry + 1:
                    return False
                if at < len(text) and table[at + 1][1 + target] > entry + (text[at] not in found.places[target][1]):
                    return False
    return all(number <= table[-1][1 + place] for place in places
               if place in found.lasts or (place == -1 and found.may_be_empty))


class AllShortTexts(unittest.TestCase):
    def test_against_all_readable_texts(self):
        seen = {}
        for form in FORMS:
            readable = sorted(readings_by_text(form, LONGEST), key=order)
            for text in TEXTS:
                number, result = mended(form, text)
                self.assertEqual(slips(form, text), number)
                self.assertIs(reads(form, result), True)
                self.assertEqual(distance(text, result), number)
                self.assertLessEqual(abs(len(result) - len(text)), number)
                # All texts with so many changes are among the readable ones if these are long enough.
                if len(text) + number <= LONGEST:
                    numbers = [distance(text, other) for other in readable]
                    self.assertEqual(number, min(numbers), (form.spelled(), text))
                    self.assertEqual(result, readable[numbers.index(number)], (form.spelled(), text))
                    seen[number] = seen.get(number, 0) + 1
        self.assertGreater(min(seen[number] for number in range(5)), 15)

    def test_against_changes_one_by_one(self):
        for form in FORMS[::2]:
            for text in TEXTS:
                number, table = table_by_hand(form, text)
                self.assertEqual(slips_certificate(form, text), (number, table), (form.spelled(), text))
                self.assertEqual(slips(form, text), number)

    def test_readable_texts_stay(self):
        for form in FORMS:
            for text in readings_by_text(form, 3):
                self.assertEqual([slips(form, text), mended(form, text)], [0, (0, text)])

    def test_the_empty_text(self):
        for form in FORMS:
            text = least_text(form)
            self.assertEqual(mended(form, ""), (len(text), text))

    def test_longer_texts_and_results(self):
        draw = random.Random(56)
        forms = [Form.parse("{a}-{b}\n[{c}]", {"a": Kind.run("ab", 2, 3), "b": Kind.words(["xy", "xyz"]), "c": ONE}),
                 Form.parse("ab[{a}c]\n{b}", {"a": Kind.run("d", 1, 2), "b": Kind.words(["e", "ef"])})]
        for form in forms:
            readable = sorted(readings_by_text(form, 10), key=order)
            for _ in range(120):
                text = "".join(draw.choice("abcdef-xyz\n") for _ in range(draw.randint(0, 14)))
                numbers = [distance(text, other) for other in readable]
                self.assertEqual(mended(form, text), (min(numbers), readable[numbers.index(min(numbers))]), text)
                self.assertEqual(slips_certificate(form, text), table_by_hand(form, text))


class Ordinary(unittest.TestCase):
    def test_examples(self):
        form = Form.parse("b[{c}]", {"c": Kind.words(["a"])})
        self.assertEqual(mended(form, "xbx"), (2, "b"))
        self.assertEqual(slips_certificate(form, "x"), (1, [[0, 1, 2], [1, 1, 2]]))
        self.assertEqual(slips(form, "xbx"), 2)

    def test_the_least_of_several(self):
        form = Form([[Field("a", Kind.words(["cc", "bd", "abc", "bbb"]))]])
        self.assertEqual([mended(form, text) for text in ["bc", "bb", "a", "xxx"]],
                         [(1, "bd"), (1, "bd"), (2, "bd"), (3, "bd")])
        self.assertEqual(mended(form, "bbc"), (1, "abc"))

    def test_line_feeds_are_inserted_and_removed(self):
        form = Form([[Field("a", FREE)], [Field("b", FREE)]])
        self.assertEqual(mended(form, "ab"), (1, "a\nb"))
        self.assertEqual(mended(form, "a-b"), (1, "a\nb"))
        self.assertEqual(mended(form, "a\n\nb"), (1, "a\nb"))
        self.assertEqual(mended(form, "\n\n"), (2, "a\na"))
        self.assertEqual(mended(form, "aaa"), (1, "a\na"))

    def test_a_longer_result_than_the_text(self):
        form = Form([[Mark("q" * 200)]])
        self.assertEqual(mended(form, "q" * 3), (197, "q" * 200))
        self.assertEqual(mended(form, "x" * 400), (400, "q" * 200))
        self.assertEqual(mended(form, "q" * 400), (200, "q" * 200))

    def test_texts_of_400_characters(self):
        form = Form([[Field("a", Kind.run("a", 0, None) + Kind.run("b", 30, 30)), Mark("c" * 100)]])
        text = "a" * 400
        self.assertEqual(mended(form, text), (130, "a" * 270 + "b" * 30 + "c" * 100))
        self.assertEqual(mended(form, "a" * 300 + "c" * 100), (30, "a" * 270 + "b" * 30 + "c" * 100))
        fixed = Form([[Field("a", Kind.run("a", 1, None)), Mark("-" * 150)]])
        self.assertEqual(mended(fixed, "a" * 250 + "-" * 149), (1, "a" * 249 + "-" * 150))
        odd = Form([[Field("a", Kind.run("a", 40, None)), Mark("b" * 5), Field("c", Kind.run("c", 40, None))]])
        self.assertEqual(mended(odd, "a" * 200 + "c" * 200), (5, "a" * 200 + "b" * 5 + "c" * 195))

    def test_long_texts_within_seconds(self):
        draw = random.Random(57)
        names = "abcdefghijkl"
        for form in [Form([[Field(name, Kind.run("xy", 1, 16)) for name in names]]),
                     Form([[Maybe([Field(name, Kind.run("xyz", 1, None)), Mark("-")]) for name in names]]),
                     Form([[Field("a", Kind.run("xy", 0, 40) + Kind.run("yz", 0, 40) + Kind.run("z", 1, 40))]])]:
            for text in ["", "x" * 400, "".join(draw.choice("xyz-\n") for _ in range(400))]:
                before = time.monotonic()
                number, result = mended(form, text)
                self.assertEqual(slips(form, text), number)
                self.assertEqual(distance(text, result), number)
                certificate = slips_certificate(form, text)
                self.assertEqual(certificate[0], number)
                self.assertIs(is_slips_certificate(form, text, certificate), True)
                self.assertLess(time.monotonic() - before, 20)


class IsSlipsCertificate(unittest.TestCase):
    def judge(self, form, text, number, table):
        expected = judged(form, text, number, table)
        self.assertIs(is_slips_certificate(form, text, (number, table)), expected, (form.spelled(), text, number, table))
        return expected

    def test_what_slips_certificate_returns(self):
        for form in FORMS:
            for text in TEXTS[::2]:
                number, table = slips_certificate(form, text)
                self.assertIs(is_slips_certificate(form, text, (number, table)), True)
                self.assertIs(is_slips_certificate(form, text, (number - 1, table)), True)
                self.assertIs(is_slips_certificate(form, text, (number - 10 ** 40, table)), True)
                self.assertIs(is_slips_certificate(form, text, (number + 1, table)), False)
                for wrong in [[number, table], (number,), (number, table, 0), (table, number), (str(number), table),
                              (number, tuple(table)), (number, table[1:]), (number, table + table[-1:]),
                              (number, [tuple(row) for row in table]), (number, [row[1:] for row in table]),
                              (number, [row + [0] for row in table]), (number, table[:-1] + [table[-1] + [0]]),
                              (number, [row[:-1] for row in table]), (number, []), (bool(number), table)]:
                    self.assertIs(is_slips_certificate(form, text, wrong), False)

    def test_each_entry_raised_and_lowered(self):
        seen = [0, 0]
        for form in FORMS[::9]:
            for text in TEXTS[1::4]:
                number, table = slips_certificate(form, text)
                for at, row in enumerate(table):
                    for place in range(len(row)):
                        for more in (-1, 1):
                            table[at][place] += more
                            seen[self.judge(form, text, number, table)] += 1
                            table[at][place] -= more
        self.assertGreater(min(seen), 200)

    def test_other_tables(self):
        draw = random.Random(58)
        seen = [0, 0]
        for form in FORMS[::3]:
            for text in TEXTS[::3]:
                number, table = slips_certificate(form, text)
                for _ in range(3):
                    shift = draw.choice([0, 0, 1, 5, 10 ** 30])
                    other = [[entry - shift for entry in row] for row in table]
                    for _ in range(draw.randint(0, 2)):
                        row = draw.choice(other)
                        row[draw.randrange(len(row))] -= draw.choice([1, 2, 10 ** 40])
                    seen[self.judge(form, text, number - draw.choice([shift, shift, shift + 2, 0]), other)] += 1
        self.assertGreater(min(seen), 40)

    def test_constant_tables(self):
        form = Form.parse("b[{c}]", {"c": Kind.words(["a"])})
        for text in ["", "x", "xbx"]:
            size = len(form.places()) + 1
            for entry in [0, -5, -10 ** 30]:
                table = [[entry] * size for _ in range(len(text) + 1)]
                self.assertIs(is_slips_certificate(form, text, (entry, table)), True)
                self.assertIs(is_slips_certificate(form, text, (entry + 1, table)), False)
            self.assertIs(is_slips_certificate(form, text, (0, [[1] * size for _ in range(len(text) + 1)])), False)

    def test_spoilt_objects(self):
        form = Form.parse("b[{c}]", {"c": Kind.words(["a"])})
        number, table = slips_certificate(form, "x")
        for part in [*PLAIN_OBJECTS, *NUMBERS, "", "ab", Signs("a"), ONE, form]:
            self.assertIs(is_slips_certificate(form, "x", part), False)
            is_low = type(part) is int and part <= 1
            self.assertIs(is_slips_certificate(form, "x", (part, table)), is_low)
            self.assertIs(is_slips_certificate(form, "x", (number, part)), False)
            self.assertIs(is_slips_certificate(form, "x", (number, [table[0], part])), False)
            self.assertIs(is_slips_certificate(form, "x", (number, [part, table[1]])), False)
            for at in range(2):
                for place in range(3):
                    other = [list(row) for row in table]
                    other[at][place] = part
                    expected = type(part) is int and judged(form, "x", number, other)
                    self.assertIs(is_slips_certificate(form, "x", (number, other)), expected)

    def test_true_and_false_are_no_integers(self):
        form = Form.parse("b[{c}]", {"c": Kind.words(["a"])})
        self.assertIs(is_slips_certificate(form, "x", (1, [[0, 1, 2], [1, 1, 2]])), True)
        self.assertIs(is_slips_certificate(form, "x", (True, [[0, 1, 2], [1, 1, 2]])), False)
        self.assertIs(is_slips_certificate(form, "x", (1, [[False, 1, 2], [1, 1, 2]])), False)
        self.assertIs(is_slips_certificate(form, "x", (1, [[0, 1, 2], [1, True, 2]])), False)

    def test_a_number_is_shown_exactly_if_it_is_low_enough(self):
        for form in FORMS[::8]:
            for text in TEXTS[::3]:
                fewest, table = slips_certificate(form, text)
                for number in range(-2, fewest + 3):
                    self.assertIs(is_slips_certificate(form, text, (number, table)), number <= fewest)


class Arguments(unittest.TestCase):
    def test_what_no_text_is(self):
        form = Form([[Field("a", TWO)]])
        for thing in BAD_TEXTS:
            for call in [slips, mended, slips_certificate, lambda form, text: is_slips_certificate(form, text, None),
                         lambda form, text: is_slips_certificate(form, text, (0, []))]:
                with self.subTest(thing), self.assertRaises(BadText):
                    call(form, thing)

    def test_by_name(self):
        form = Form([[Field("a", TWO)]])
        self.assertEqual([slips(text="abc", form=form), mended(text="abc", form=form)], [1, (1, "ab")])
        certificate = slips_certificate(text="abc", form=form)
        self.assertIs(is_slips_certificate(thing=certificate, text="abc", form=form), True)

    def test_what_is_returned_is_new(self):
        form = Form.parse("b[{c}]", {"c": Kind.words(["a"])})
        for _ in range(2):
            number, table = slips_certificate(form, "x")
            self.assertEqual(table, [[0, 1, 2], [1, 1, 2]])
            is_slips_certificate(form, "x", (number, table))
            self.assertEqual(table, [[0, 1, 2], [1, 1, 2]])
            table[0].append(1)
            table.clear()

    def test_the_functions_stand_in_the_module(self):
        for name in ["slips", "mended", "slips_certificate", "is_slips_certificate"]:
            self.assertEqual(getattr(module, name).__module__, "townlines.mending")

    def test_short_texts_of_all_characters(self):
        form = Form([[Field("a", ONE), Maybe([Mark("~"), Field("b", FREE)])]])
        for text in strings("a~b\n %".replace("%", ""), 2):
            self.assertEqual(slips(form, text), table_by_hand(form, text)[0])


if __name__ == "__main__":
    unittest.main()
