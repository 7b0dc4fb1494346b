"""Points 55 to 57: slips, mended, slips_certificate and is_slips_certificate."""

import heapq
import pathlib
import random
import sys
import time
import unittest

from by_hand import NUMBERS, PLAIN_OBJECTS, strings
from forms_by_hand import BAD_TEXTS, FREE, ONE, TWO, Walks, random_forms, readings_by_text, small_forms
from pairs_by_hand import order
from townlines import mending as module
from townlines.errors import BadText
from townlines.forms import Form
from townlines.items import Field, Mark, Maybe
from townlines.kinds import Kind
from townlines.mending import is_slips_certificate, mended, slips, slips_certificate
from townlines.signs import Signs
from townlines.walks import least_text, reads

FORMS = [*small_forms(), *random_forms(55, 120)]
TEXTS = ["", "a", "b", "\n", "c", "aa", "ba", "ab", "a\n", "\nb", "xa", "a a", "bba", "aab", "a\nb", "b\n\n", "cab", "~~~", "abab"]
LONGEST = 6


def distance(text, other):
    """The fewest changes that turn one text into another."""
    row = list(range(len(other) + 1))
    for at, char in enumerate(text):
        earlier, row = row, [at + 1]
        for index, sign in enumerate(other):
            row.append(min(earlier[index] + (char != sign), earlier[index + 1] + 1, row[index] + 1))
    return row[-1]


def table_by_hand(form, text):
    """The table of point 56, reckoned change by change, and the fewest changes of the whole text."""
    found = Walks(form)
    size = len(found.places)
    known = {(0, -1): 0}
    newest, number = {(0, -1)}, 0
    while newest:
        waiting = list(newest)
        while waiting:
            at, place = waiting.pop()
            for target in found.after[place]:
                state = (at + 1, target)
                if at < len(text) and text[at] in found.places[target][1] and state not in known:
                    known[state] = number
                    waiting.append(state)
                    newest.add(state)
        number += 1
        reached = set()
        for at, place in newest:
            reached |= {(at, target) for target in found.after[place]}
            if at < len(text):
                reached |= {(at + 1, target) for target in found.after[place]} | {(at + 1, place)}
        newest = reached - set(known)
        known.update((state, number) for state in newest)
    table = [[known[at, place] for place in range(-1, size)] for at in range(len(text) + 1)]
    ending = [place for place in range(-1, size) if place in found.lasts or (place == -1 and found.may_be_empty)]
    return min(table[-1][1 + place] for place in ending), table


def mended_by_hand(form, text):
    """Point 55: from the end of the text on, the least of what each place can still turn its rest into."""
    found = Walks(form)
    waiting = [(0, 0, "", len(text), place) for place in found.lasts | ({-1} if found.may_be_empty else set())]
    heapq.heapify(waiting)
    known = set()
    while waiting:
        number, length, rest, at, place = heapq.heappop(waiting)
        if (at, place) in known:
            continue
        known.add((at, place))
        if (at, place) == (0, -1):
            return number, rest
        if at > 0:
            heapq.heappush(waiting, (number + 1, length, rest, at - 1, place))
        if place == -1:
            continue
        chars = found.places[place][1]
        for source in found.before[place]:
            heapq.heappush(waiting, (number + 1, length + 1, min(chars) + rest, at, source))
            if at > 0:
                heapq.heappush(waiting, (number + 1, length + 1, min(chars) + rest, at - 1, source))
                if text[at - 1] in chars:
                    heapq.heappush(waiting, (number, length + 1, text[at - 1] + rest, at - 1, source))


def lines_run(call, form, text):
    """How many lines of the package a call runs: its work, told without a clock."""
    passed = [0]
    package = str(pathlib.Path(module.__file__).parent)

    def trace(frame, event, argument):
        if not frame.f_code.co_filename.startswith(package):
            return None
        passed[0] += event == "line"
        return trace

    earlier = sys.gettrace()
    sys.settrace(trace)
    try:
        call(form, text)
    finally:
        sys.settrace(earlier)
    return passed[0]


def judged(form, text, number, table):
    """Point 57, for a number and a table of integers of the right size."""
    found = Walks(form)
    places = range(-1, len(found.places))
    if table[0][0] > 0:
        return False
    for at in range(len(text) + 1):
        for place in places:
            entry = table[at][1 + place]
            if at < len(text) and table[at + 1][1 + place] > entry + 1:
                return False
            for target in found.after[place]:
                if table[at][1 + target] > entry + 1:
                    return False
                if at < len(text) and table[at + 1][1 + target] > entry + (text[at] not in found.places[target][1]):
                    return False
    return all(number <= table[-1][1 + place] for place in places
               if place in found.lasts or (place == -1 and found.may_be_empty))


class AllShortTexts(unittest.TestCase):
    def test_against_all_readable_texts(self):
        seen = {}
        for form in FORMS:
            readable = sorted(readings_by_text(form, LONGEST), key=order)
            for text in TEXTS:
                number, result = mended(form, text)
                self.assertEqual(slips(form, text), number)
                self.assertIs(reads(form, result), True)
                self.assertEqual(distance(text, result), number)
                self.assertLessEqual(abs(len(result) - len(text)), number)
                # All texts with so many changes are among the readable ones if these are long enough.
                if len(text) + number <= LONGEST:
                    numbers = [distance(text, other) for other in readable]
                    self.assertEqual(number, min(numbers), (form.spelled(), text))
                    self.assertEqual(result, readable[numbers.index(number)], (form.spelled(), text))
                    seen[number] = seen.get(number, 0) + 1
        self.assertGreater(min(seen[number] for number in range(5)), 15)

    def test_against_changes_one_by_one(self):
        for form in FORMS[::2]:
            for text in TEXTS:
                number, table = table_by_hand(form, text)
                self.assertEqual(slips_certificate(form, text), (number, table), (form.spelled(), text))
                self.assertEqual(slips(form, text), number)

    def test_readable_texts_stay(self):
        for form in FORMS:
            for text in readings_by_text(form, 3):
                self.assertEqual([slips(form, text), mended(form, text)], [0, (0, text)])

    def test_the_empty_text(self):
        for form in FORMS:
            text = least_text(form)
            self.assertEqual(mended(form, ""), (len(text), text))

    def test_longer_texts_and_results(self):
        draw = random.Random(56)
        forms = [Form.parse("{a}-{b}\n[{c}]", {"a": Kind.run("ab", 2, 3), "b": Kind.words(["xy", "xyz"]), "c": ONE}),
                 Form.parse("ab[{a}c]\n{b}", {"a": Kind.run("d", 1, 2), "b": Kind.words(["e", "ef"])})]
        for form in forms:
            readable = sorted(readings_by_text(form, 10), key=order)
            for _ in range(120):
                text = "".join(draw.choice("abcdef-xyz\n") for _ in range(draw.randint(0, 14)))
                numbers = [distance(text, other) for other in readable]
                self.assertEqual(mended(form, text), (min(numbers), readable[numbers.index(min(numbers))]), text)
                self.assertEqual(slips_certificate(form, text), table_by_hand(form, text))


class Ordinary(unittest.TestCase):
    def test_examples(self):
        form = Form.parse("b[{c}]", {"c": Kind.words(["a"])})
        self.assertEqual(mended(form, "xbx"), (2, "b"))
        self.assertEqual(slips_certificate(form, "x"), (1, [[0, 1, 2], [1, 1, 2]]))
        self.assertEqual(slips(form, "xbx"), 2)

    def test_the_least_of_several(self):
        form = Form([[Field("a", Kind.words(["cc", "bd", "abc", "bbb"]))]])
        self.assertEqual([mended(form, text) for text in ["bc", "bb", "a", "xxx"]],
                         [(1, "bd"), (1, "bd"), (2, "bd"), (3, "bd")])
        self.assertEqual(mended(form, "bbc"), (1, "abc"))

    def test_line_feeds_are_inserted_and_removed(self):
        form = Form([[Field("a", FREE)], [Field("b", FREE)]])
        self.assertEqual(mended(form, "ab"), (1, "a\nb"))
        self.assertEqual(mended(form, "a-b"), (1, "a\nb"))
        self.assertEqual(mended(form, "a\n\nb"), (1, "a\nb"))
        self.assertEqual(mended(form, "\n\n"), (2, "a\na"))
        self.assertEqual(mended(form, "aaa"), (1, "a\na"))

    def test_a_longer_result_than_the_text(self):
        form = Form([[Mark("q" * 200)]])
        self.assertEqual(mended(form, "q" * 3), (197, "q" * 200))
        self.assertEqual(mended(form, "x" * 400), (400, "q" * 200))
        self.assertEqual(mended(form, "q" * 400), (200, "q" * 200))

    def test_texts_of_400_characters(self):
        form = Form([[Field("a", Kind.run("a", 0, None) + Kind.run("b", 30, 30)), Mark("c" * 100)]])
        text = "a" * 400
        self.assertEqual(mended(form, text), (130, "a" * 270 + "b" * 30 + "c" * 100))
        self.assertEqual(mended(form, "a" * 300 + "c" * 100), (30, "a" * 270 + "b" * 30 + "c" * 100))
        fixed = Form([[Field("a", Kind.run("a", 1, None)), Mark("-" * 150)]])
        self.assertEqual(mended(fixed, "a" * 250 + "-" * 149), (1, "a" * 249 + "-" * 150))
        odd = Form([[Field("a", Kind.run("a", 40, None)), Mark("b" * 5), Field("c", Kind.run("c", 40, None))]])
        self.assertEqual(mended(odd, "a" * 200 + "c" * 200), (5, "a" * 200 + "b" * 5 + "c" * 195))

    def test_long_texts_within_seconds(self):
        draw = random.Random(57)
        names = "abcdefghijkl"
        for form in [Form([[Field(name, Kind.run("xy", 1, 16)) for name in names]]),
                     Form([[Maybe([Field(name, Kind.run("xyz", 1, None)), Mark("-")]) for name in names]]),
                     Form([[Field("a", Kind.run("xy", 0, 40) + Kind.run("yz", 0, 40) + Kind.run("z", 1, 40))]])]:
            for text in ["", "x" * 400, "".join(draw.choice("xyz-\n") for _ in range(400))]:
                before = time.monotonic()
                number, result = mended(form, text)
                self.assertEqual(slips(form, text), number)
                self.assertEqual(distance(text, result), number)
                certificate = slips_certificate(form, text)
                self.assertEqual(certificate[0], number)
                self.assertIs(is_slips_certificate(form, text, certificate), True)
                self.assertLess(time.monotonic() - before, 20)


class LongTexts(unittest.TestCase):
    """Texts of up to 400 characters, whose places may need numbers of changes that are far apart."""

    ROAD = Form([[Field("road", Kind.run("a", 1, None))]])

    def check(self, form, text):
        number, table = table_by_hand(form, text)
        self.assertEqual(slips_certificate(form, text), (number, table), (form.spelled(), text))
        self.assertEqual(slips(form, text), number)
        self.assertEqual(mended(form, text), mended_by_hand(form, text), (form.spelled(), text))

    def test_one_run_without_a_bound(self):
        for size in [1, 2, 3, 7, 50, 199, 398, 399]:
            table = [[0, 1], *([at, 0] for at in range(1, size + 1))]
            self.assertEqual(slips(self.ROAD, "a" * size), 0)
            self.assertEqual(mended(self.ROAD, "a" * size), (0, "a" * size))
            self.assertEqual(slips_certificate(self.ROAD, "a" * size), (0, table))
            self.assertEqual(slips(self.ROAD, "a" * size + "\n"), 1)
            self.assertEqual(mended(self.ROAD, "a" * size + "\n"), (1, "a" * size))
            self.assertEqual(slips_certificate(self.ROAD, "a" * size + "\n"), (1, [*table, [size + 1, 1]]))
            self.assertEqual(mended(self.ROAD, "\n" + "a" * size), (1, "a" * size))
            self.assertEqual(slips_certificate(self.ROAD, "\n" + "a" * size),
                             (1, [[0, 1], *([at, 1] for at in range(1, size + 2))]))
            self.assertEqual(slips(self.ROAD, "b" * size), size)
            self.assertEqual(mended(self.ROAD, "b" * size), (size, "a"))
            self.assertEqual(slips_certificate(self.ROAD, "b" * size),
                             (size, [[0, 1], *([at, at] for at in range(1, size + 1))]))
        self.assertEqual([slips(self.ROAD, text) for text in ["a" * 400, "a" * 399 + "\n", "b" * 400]], [0, 1, 400])
        self.assertEqual([mended(self.ROAD, text) for text in ["a" * 400, "a" * 399 + "\n", "b" * 400]],
                         [(0, "a" * 400), (1, "a" * 399), (400, "a")])
        for text in ["a" * 400, "a" * 399 + "\n", "b" * 400, "a" * 200 + "b" + "a" * 199, "ab" * 200]:
            self.check(self.ROAD, text)

    def test_places_before_and_behind_long_values(self):
        kinds = {"p": Kind.run("a", 1, None), "q": Kind.run("ab", 1, None), "r": Kind.run("b", 1, 3)}
        for spelling in ["{p}b", "b{p}", "b{p}bb", "{p}\n{q}", "[{r}b]{p}", "{p}[b{r}]", "[{r}]\n{p}\n[{q}]",
                         "{p}c{q}c{r}"]:
            form = Form.parse(spelling, kinds)
            for text in ["a" * 400, "a" * 399 + "b", "b" * 3 + "a" * 100, "a" * 150 + "\n" + "a" * 150, "\n" * 60,
                         "b" * 40 + "a" * 40 + "b" * 40, "a" * 60 + "c" + "a" * 60 + "c" + "b" * 60]:
                self.check(form, text)

    def test_drawn_texts(self):
        draw = random.Random(59)
        for form in [*FORMS[::4], *random_forms(60, 60, "abc")]:
            base = "".join(draw.choice("ab\n") for _ in range(draw.randint(1, 4))) * 20
            for _ in range(draw.randint(0, 3)):
                at = draw.randint(0, len(base))
                base = base[:at] + draw.choice("abc\n") + base[at + draw.randint(0, 1):]
            self.check(form, base)
            self.check(form, "".join(draw.choice("abc\n") for _ in range(draw.randint(20, 60))))

    def test_the_work_grows_with_the_text_and_not_with_its_square(self):
        sink = Form([[Mark("b"), Field("road", Kind.run("a", 1, None)), Mark("b")]])
        for form in [self.ROAD, sink]:
            for call in [slips, mended, slips_certificate]:
                for front, behind in [("", ""), ("", "\n"), ("\n", ""), ("", "\n" + "a" * 50)]:
                    one, two = [front + "a" * (size - len(front + behind)) + behind for size in (200, 400)]
                    runs = [lines_run(call, form, text) for text in (one, two)]
                    self.assertGreater(runs[0], 200)
                    self.assertLess(runs[1], 2.2 * runs[0], (form.spelled(), call, one))


class IsSlipsCertificate(unittest.TestCase):
    def judge(self, form, text, number, table):
        expected = judged(form, text, number, table)
        self.assertIs(is_slips_certificate(form, text, (number, table)), expected, (form.spelled(), text, number, table))
        return expected

    def test_what_slips_certificate_returns(self):
        for form in FORMS:
            for text in TEXTS[::2]:
                number, table = slips_certificate(form, text)
                self.assertIs(is_slips_certificate(form, text, (number, table)), True)
                self.assertIs(is_slips_certificate(form, text, (number - 1, table)), True)
                self.assertIs(is_slips_certificate(form, text, (number - 10 ** 40, table)), True)
                self.assertIs(is_slips_certificate(form, text, (number + 1, table)), False)
                for wrong in [[number, table], (number,), (number, table, 0), (table, number), (str(number), table),
                              (number, tuple(table)), (number, table[1:]), (number, table + table[-1:]),
                              (number, [tuple(row) for row in table]), (number, [row[1:] for row in table]),
                              (number, [row + [0] for row in table]), (number, table[:-1] + [table[-1] + [0]]),
                              (number, [row[:-1] for row in table]), (number, []), (bool(number), table)]:
                    self.assertIs(is_slips_certificate(form, text, wrong), False)

    def test_each_entry_raised_and_lowered(self):
        seen = [0, 0]
        for form in FORMS[::9]:
            for text in TEXTS[1::4]:
                number, table = slips_certificate(form, text)
                for at, row in enumerate(table):
                    for place in range(len(row)):
                        for more in (-1, 1):
                            table[at][place] += more
                            seen[self.judge(form, text, number, table)] += 1
                            table[at][place] -= more
        self.assertGreater(min(seen), 200)

    def test_other_tables(self):
        draw = random.Random(58)
        seen = [0, 0]
        for form in FORMS[::3]:
            for text in TEXTS[::3]:
                number, table = slips_certificate(form, text)
                for _ in range(3):
                    shift = draw.choice([0, 0, 1, 5, 10 ** 30])
                    other = [[entry - shift for entry in row] for row in table]
                    for _ in range(draw.randint(0, 2)):
                        row = draw.choice(other)
                        row[draw.randrange(len(row))] -= draw.choice([1, 2, 10 ** 40])
                    seen[self.judge(form, text, number - draw.choice([shift, shift, shift + 2, 0]), other)] += 1
        self.assertGreater(min(seen), 40)

    def test_constant_tables(self):
        form = Form.parse("b[{c}]", {"c": Kind.words(["a"])})
        for text in ["", "x", "xbx"]:
            size = len(form.places()) + 1
            for entry in [0, -5, -10 ** 30]:
                table = [[entry] * size for _ in range(len(text) + 1)]
                self.assertIs(is_slips_certificate(form, text, (entry, table)), True)
                self.assertIs(is_slips_certificate(form, text, (entry + 1, table)), False)
            self.assertIs(is_slips_certificate(form, text, (0, [[1] * size for _ in range(len(text) + 1)])), False)

    def test_spoilt_objects(self):
        form = Form.parse("b[{c}]", {"c": Kind.words(["a"])})
        number, table = slips_certificate(form, "x")
        for part in [*PLAIN_OBJECTS, *NUMBERS, "", "ab", Signs("a"), ONE, form]:
            self.assertIs(is_slips_certificate(form, "x", part), False)
            is_low = type(part) is int and part <= 1
            self.assertIs(is_slips_certificate(form, "x", (part, table)), is_low)
            self.assertIs(is_slips_certificate(form, "x", (number, part)), False)
            self.assertIs(is_slips_certificate(form, "x", (number, [table[0], part])), False)
            self.assertIs(is_slips_certificate(form, "x", (number, [part, table[1]])), False)
            for at in range(2):
                for place in range(3):
                    other = [list(row) for row in table]
                    other[at][place] = part
                    expected = type(part) is int and judged(form, "x", number, other)
                    self.assertIs(is_slips_certificate(form, "x", (number, other)), expected)

    def test_true_and_false_are_no_integers(self):
        form = Form.parse("b[{c}]", {"c": Kind.words(["a"])})
        self.assertIs(is_slips_certificate(form, "x", (1, [[0, 1, 2], [1, 1, 2]])), True)
        self.assertIs(is_slips_certificate(form, "x", (True, [[0, 1, 2], [1, 1, 2]])), False)
        self.assertIs(is_slips_certificate(form, "x", (1, [[False, 1, 2], [1, 1, 2]])), False)
        self.assertIs(is_slips_certificate(form, "x", (1, [[0, 1, 2], [1, True, 2]])), False)

    def test_a_number_is_shown_exactly_if_it_is_low_enough(self):
        for form in FORMS[::8]:
            for text in TEXTS[::3]:
                fewest, table = slips_certificate(form, text)
                for number in range(-2, fewest + 3):
                    self.assertIs(is_slips_certificate(form, text, (number, table)), number <= fewest)


class Arguments(unittest.TestCase):
    def test_what_no_text_is(self):
        form = Form([[Field("a", TWO)]])
        for thing in BAD_TEXTS:
            for call in [slips, mended, slips_certificate, lambda form, text: is_slips_certificate(form, text, None),
                         lambda form, text: is_slips_certificate(form, text, (0, []))]:
                with self.subTest(thing), self.assertRaises(BadText):
                    call(form, thing)

    def test_by_name(self):
        form = Form([[Field("a", TWO)]])
        self.assertEqual([slips(text="abc", form=form), mended(text="abc", form=form)], [1, (1, "ab")])
        certificate = slips_certificate(text="abc", form=form)
        self.assertIs(is_slips_certificate(thing=certificate, text="abc", form=form), True)

    def test_what_is_returned_is_new(self):
        form = Form.parse("b[{c}]", {"c": Kind.words(["a"])})
        for _ in range(2):
            number, table = slips_certificate(form, "x")
            self.assertEqual(table, [[0, 1, 2], [1, 1, 2]])
            is_slips_certificate(form, "x", (number, table))
            self.assertEqual(table, [[0, 1, 2], [1, 1, 2]])
            table[0].append(1)
            table.clear()

    def test_the_functions_stand_in_the_module(self):
        for name in ["slips", "mended", "slips_certificate", "is_slips_certificate"]:
            self.assertEqual(getattr(module, name).__module__, "townlines.mending")

    def test_short_texts_of_all_characters(self):
        form = Form([[Field("a", ONE), Maybe([Mark("~"), Field("b", FREE)])]])
        for text in strings("a~b\n %".replace("%", ""), 2):
            self.assertEqual(slips(form, text), table_by_hand(form, text)[0])


if __name__ == "__main__":
    unittest.main()
