"""Points 33 to 36: texts, records, text_at, number_of and all_texts."""

import itertools
import time
import types
import unittest

from by_hand import PLAIN_OBJECTS, exactly_1999, marked, strings
from forms_by_hand import BAD_TEXTS, FREE, ONE, TWO, Walks, random_forms, readings_by_text, small_forms
from townlines import counts as module
from townlines.counts import all_texts, number_of, records, text_at, texts
from townlines.errors import BadNumber, BadText, NoReading, TooLarge
from townlines.forms import Form
from townlines.items import Field, Mark, Maybe
from townlines.kinds import Kind
from townlines.signs import Signs
from townlines.walks import least_text, reads

FORMS = [*small_forms(), *random_forms(33, 110)]
LONGEST = 5
LETTERS = Signs.letters()


def order(text):
    return (len(text), text)


def lists_of(form, length, with_owners):
    """The number of different non-empty lists of point 34, reckoned with sets of places."""
    found = Walks(form)
    chars = sorted({char for _, string in found.places for char in string})
    owners = sorted({name or "" for name, _ in found.places}) if with_owners else [None]
    newest = {frozenset([-1])}
    known = set(newest)
    for _ in range(length):
        reached = set()
        for stand in newest:
            after = set().union(*(found.after[place] for place in stand))
            for char, owner in itertools.product(chars, owners):
                reached.add(frozenset(place for place in after if char in found.places[place][1]
                                      and owner in (None, found.places[place][0] or "")))
        newest = reached - known - {frozenset()}
        known |= newest
    return len(known)


def exactly_974():
    """A kind of windows for which 974 lists occur for texts that are not empty."""
    kind = Kind.run("op", 0, None) + Kind.run("o")
    for pair, distance in [("cd", 8), ("ef", 7), ("gh", 6), ("ij", 5), ("kl", 2), ("mn", 1)]:
        kind = kind | marked(pair, distance)
    return kind


class AllShortTexts(unittest.TestCase):
    @classmethod
    def setUpClass(cls):
        cls.found = [(form, readings_by_text(form, LONGEST)) for form in FORMS]

    def test_texts_and_records(self):
        for form, found in self.found:
            for length in range(LONGEST + 1):
                here = [text for text in found if len(text) == length]
                self.assertEqual(texts(form, length), len(here), (form.spelled(), length))
                self.assertEqual(records(form, length), sum(len(found[text]) for text in here), (form.spelled(), length))

    def test_the_numbers_differ(self):
        more = [sum(len(rows) > 1 for rows in found.values()) for _, found in self.found]
        self.assertGreater(sum(number > 0 for number in more), 50)

    def test_text_at_and_number_of(self):
        for form, found in self.found:
            for number, text in enumerate(sorted(found, key=order)):
                self.assertEqual(text_at(form, number), text, (form.spelled(), number))
                self.assertEqual(number_of(form, text), number, (form.spelled(), text))

    def test_numbers_beyond(self):
        for form, found in self.found[::4]:
            number = len(found)
            try:
                text = text_at(form, number)
            except BadNumber:
                self.assertEqual([texts(form, length) for length in range(LONGEST + 1, 61)], [0] * (60 - LONGEST))
                continue
            self.assertGreater(len(text), LONGEST)
            self.assertIs(reads(form, text), True)
            self.assertEqual(number_of(form, text), number)

    def test_number_of_other_texts(self):
        for form, found in self.found:
            for text in strings("ab\n", 3):
                if text not in found:
                    with self.assertRaises(NoReading):
                        number_of(form, text)

    def test_all_texts(self):
        for form, found in self.found:
            for longest in range(LONGEST + 1):
                expected = sorted((text for text in found if len(text) <= longest), key=order)
                self.assertEqual(list(all_texts(form, longest)), expected, (form.spelled(), longest))


class LongTexts(unittest.TestCase):
    def test_exact_numbers_of_many_digits(self):
        form = Form([[Field("a", Kind.run(~Signs(), 1, None)), Maybe([Field("b", Kind.run("a", 1, 1))])]])
        for length in [1, 2, 17, 59, 60]:
            self.assertEqual(texts(form, length), 94 ** length)
            self.assertEqual(records(form, length), 94 ** length + (94 ** (length - 1) if length > 1 else 0))

    def test_numbers_of_such_texts(self):
        form = Form([[Field("a", Kind.run(LETTERS, 1, None))]])
        earlier = sum(26 ** length for length in range(1, 60))
        self.assertEqual(text_at(form, earlier), "a" * 60)
        self.assertEqual(text_at(form, earlier - 1), "z" * 59)
        self.assertEqual(text_at(form, earlier + 26 ** 60 - 1), "z" * 60)
        word = "townlines" * 6 + "abcdef"
        number = earlier + sum((ord(sign) - 97) * 26 ** (59 - at) for at, sign in enumerate(word))
        self.assertEqual(number_of(form, word), number)
        self.assertEqual(text_at(form, number), word)
        for number in [earlier + 26 ** 60, 10 ** 100, 10 ** 3000]:
            with self.assertRaises(BadNumber) as caught:
                text_at(form, number)
            self.assertIs(caught.exception.number, number)

    def test_line_feeds_are_the_least_characters(self):
        form = Form.parse("{a}\n[{b}]\n[{c}]", {name: Kind.run(" ~", 1, 2) for name in "abc"})
        expected = [" ", "~", "  ", " ~", "~ ", "~~", " \n ", " \n~", "~\n ", "~\n~", " \n  ", " \n ~", " \n~ ", " \n~~",
                    "  \n ", "  \n~", " ~\n ", " ~\n~"]
        self.assertEqual(list(itertools.islice(all_texts(form, 60), 18)), expected)
        self.assertEqual([text_at(form, number) for number in range(18)], expected)
        self.assertEqual([number_of(form, text) for text in expected], list(range(18)))

    def test_texts_of_400_characters_are_too_large(self):
        form = Form([[Field("a", FREE)]])
        self.assertEqual(number_of(form, "a" * 60), 2 ** 60 - 2)
        for text in ["a" * 61, "ab" * 200]:
            with self.assertRaises(TooLarge):
                number_of(form, text)
        for text in ["c" * 61, "a" * 399 + "\n"]:
            with self.assertRaises(NoReading):
                number_of(form, text)

    def test_a_form_with_one_text(self):
        form = Form([[Mark("a" * 30)], [Mark("b" * 29)]])
        text = "a" * 30 + "\n" + "b" * 29
        self.assertEqual([texts(form, length) for length in [0, 59, 60]], [0, 0, 1])
        self.assertEqual([records(form, length) for length in [0, 59, 60]], [0, 0, 1])
        self.assertEqual([text_at(form, 0), number_of(form, text), list(all_texts(form, 60))], [text, 0, [text]])
        self.assertEqual(list(all_texts(form, 59)), [])
        with self.assertRaises(BadNumber):
            text_at(form, 1)
        longer = Form([[Mark("a" * 61)]])
        with self.assertRaises(BadNumber):
            text_at(longer, 0)
        with self.assertRaises(TooLarge):
            number_of(longer, "a" * 61)

    def test_the_empty_text(self):
        form = Form([[Maybe([Field("a", ONE)])], [Maybe([Field("b", ONE)])]])
        self.assertEqual([texts(form, 0), records(form, 0), text_at(form, 0), number_of(form, "")], [1, 1, "", 0])
        self.assertEqual([texts(form, 1), records(form, 1)], [1, 2])
        self.assertEqual(list(all_texts(form, 0)), [""])
        self.assertEqual(list(all_texts(form, 60)), ["", "a", "a\na"])
        self.assertEqual([texts(Form([[Mark("a")]]), 0), records(Form([[Mark("a")]]), 0)], [0, 0])


class Numbers(unittest.TestCase):
    def test_wrong_lengths(self):
        form = Form([[Field("a", FREE)]])
        huge = Form([[Field("a", marked("xy", 14))]])
        for thing in [*PLAIN_OBJECTS, -1, 61, 10 ** 30, -10 ** 30, "", "1", Signs("a"), ONE]:
            for one in [form, huge]:
                for function in [texts, records, lambda form, length: next(all_texts(form, length))]:
                    with self.subTest(thing), self.assertRaises(BadNumber) as caught:
                        function(one, thing)
                    self.assertIs(caught.exception.number, thing)

    def test_wrong_numbers(self):
        for form in [Form([[Field("a", FREE)]]), Form([[Field("a", marked("xy", 14))]]), Form([[Mark("a")]])]:
            for thing in [*PLAIN_OBJECTS, -1, -10 ** 30, "", "1", Signs("a"), ONE]:
                with self.subTest(thing), self.assertRaises(BadNumber) as caught:
                    text_at(form, thing)
                self.assertIs(caught.exception.number, thing)

    def test_what_no_text_is(self):
        for form in [Form([[Field("a", FREE)]]), Form([[Field("a", marked("xy", 14))]])]:
            for thing in BAD_TEXTS:
                with self.subTest(thing), self.assertRaises(BadText):
                    number_of(form, thing)


class ManyLists(unittest.TestCase):
    """The 2,000 lists of point 34; how many there are is reckoned with sets of places."""

    def check(self, function, form, length, number):
        """Whether the function raises TooLarge() just if there are more than 2,000 lists, of which there are `number`."""
        self.assertEqual(lists_of(form, length, function is records), number)
        if number > 2000:
            with self.assertRaises(TooLarge):
                function(form, length)
        else:
            self.assertGreaterEqual(function(form, length), 0)

    def one_more_at_each_length(self):
        """1,984 lists of windows from the length 10 on, the list of the empty text, and one more for each z."""
        kind = Kind.run("z", 1, 40)
        for pair, distance in [("ab", 9), ("cd", 8), ("ef", 7), ("gh", 6), ("ij", 5)]:
            kind = kind | marked(pair, distance)
        return Form([[Field("a", kind)]])

    def test_exactly_two_thousand_and_one_more(self):
        form = self.one_more_at_each_length()
        for function in [texts, records]:
            self.check(function, form, 14, 1999)
            self.check(function, form, 15, 2000)
            self.check(function, form, 16, 2001)
            for length in [17, 40, 60]:
                with self.assertRaises(TooLarge):
                    function(form, length)

    def test_they_are_counted_up_to_the_length_only(self):
        form = Form([[Field("a", exactly_1999() | Kind.run("z"))]])
        for function in [texts, records]:
            self.check(function, form, 60, 2000)
        self.assertEqual(texts(form, 60), 8 * 2 ** 59)
        longer = Form([[Field("a", exactly_1999() | Kind.run("z"))], [Maybe([Field("b", ONE)])]])
        for function in [texts, records]:
            self.check(function, longer, 1, 18)
            with self.assertRaises(TooLarge):
                function(longer, 60)

    def test_owners_make_more_lists(self):
        kind = marked("ab", 9)
        form = Form([[Maybe([Field("p", kind), Mark("-")]), Field("q", kind)]])
        self.check(texts, form, 11, 1026)
        self.check(records, form, 11, 2050)
        self.assertEqual(texts(form, 11), 2 ** 10)

    def test_owners_make_fewer_lists(self):
        form = Form([[Field("p", Kind.run("ab", 0, None) + Kind.run("a")), Field("q", Kind.run("ab", 11, 11))]])
        self.check(texts, form, 12, 4097)
        self.check(records, form, 12, 14)
        self.assertEqual(records(form, 60), 2 ** 48 * 2 ** 11)
        self.assertEqual(texts(form, 7), 0)

    def test_exact_numbers_of_records(self):
        tail = exactly_974()
        for kind, more in [(tail, 0), (tail | Kind.run("z"), 1)]:
            form = Form([[Maybe([Field("p", marked("ab", 9)), Mark("-")]), Field("q", kind)]])
            self.check(records, form, 10, 1999 + more)
            self.check(records, form, 11, 2000 + more)
            self.check(texts, form, 11, 2000 + more)

    def test_text_at_before_and_beyond_the_limit(self):
        form = self.one_more_at_each_length()
        shorter = sum(texts(form, length) for length in range(16))
        self.assertGreater(shorter, 1000)
        self.assertEqual(text_at(form, 0), "z")
        self.assertEqual(text_at(form, shorter - 1), "z" * 15)
        self.assertEqual(number_of(form, "z" * 15), shorter - 1)
        for number in [shorter, shorter + 1, 10 ** 50]:
            with self.assertRaises(TooLarge):
                text_at(form, number)
        for text in ["z" * 16, "a" * 16]:
            with self.assertRaises(TooLarge):
                number_of(form, text)
        for text in ["y" * 16, "b" * 16]:
            with self.assertRaises(NoReading):
                number_of(form, text)

    def test_text_at_where_no_text_of_sixty_characters_has_the_number(self):
        wide = Form([[Field("a", marked("ab", 11)), Mark("c" * 60)], [Maybe([Field("b", ONE)])]])
        with self.assertRaises(TooLarge):
            text_at(wide, 0)
        narrow = Form([[Field("a", marked("ab", 3)), Mark("c" * 60)]])
        with self.assertRaises(BadNumber):
            text_at(narrow, 0)

    def test_the_shortest_text_comes_before_the_limit(self):
        form = Form([[Field("a", marked("ab", 30) | Kind.run("c", 1, 3))]])
        self.assertEqual([text_at(form, number) for number in range(3)], ["c", "cc", "ccc"])
        self.assertEqual([number_of(form, "c" * number) for number in [1, 2, 3]], [0, 1, 2])
        with self.assertRaises(TooLarge):
            text_at(form, 3)

    def test_all_texts_has_no_limit(self):
        form = Form([[Field("a", marked("ab", 30))]])
        first = list(itertools.islice(all_texts(form, 60), 3))
        self.assertEqual(first, ["a" * 31, "a" * 30 + "b", "a" * 29 + "ba"])


class OneByOne(unittest.TestCase):
    def test_the_first_ones_of_very_many(self):
        form = Form([[Field("a", Kind.run(~Signs(), 1, None))], [Maybe([Field("b", Kind.run(~Signs(), 1, None))])]])
        before = time.monotonic()
        found = all_texts(form, 60)
        self.assertIsInstance(found, types.GeneratorType)
        first = [next(found) for _ in range(94 + 94 ** 2 + 94)]
        self.assertLess(time.monotonic() - before, 5)
        self.assertEqual(first[:2] + first[93:96], [" ", "!", "~", "  ", " !"])
        self.assertEqual(first[94 + 94 ** 2:][:2], [" \n ", " \n!"])

    def test_the_first_one_of_long_ones(self):
        form = Form([[Field(name, Kind.run(LETTERS, 5, 16)) for name in "abcdefghijkl"]])
        before = time.monotonic()
        found = all_texts(form, 60)
        self.assertEqual([next(found), next(found)], ["a" * 60, "a" * 59 + "b"])
        self.assertLess(time.monotonic() - before, 2)
        self.assertEqual(list(all_texts(form, 59)), [])

    def test_two_at_a_time(self):
        form = Form([[Field("a", FREE)]])
        one, two = all_texts(form, 3), all_texts(longest=2, form=form)
        self.assertEqual([next(one), next(one), next(two), next(one), next(two)], ["a", "b", "a", "aa", "b"])
        self.assertEqual(list(two), ["aa", "ab", "ba", "bb"])
        self.assertEqual(len(list(one)), 11)


class Arguments(unittest.TestCase):
    def test_by_name(self):
        form = Form([[Field("a", TWO)]])
        self.assertEqual([texts(length=2, form=form), records(length=2, form=form)], [4, 4])
        self.assertEqual([text_at(number=2, form=form), number_of(text="aa", form=form)], ["aa", 2])

    def test_the_least_text_has_the_number_0(self):
        for form in FORMS:
            self.assertEqual(text_at(form, 0), least_text(form))

    def test_the_functions_stand_in_the_module(self):
        for name in ["texts", "records", "text_at", "number_of", "all_texts"]:
            self.assertEqual(getattr(module, name).__module__, "townlines.counts")


if __name__ == "__main__":
    unittest.main()
