"""Points 47 to 50: both, beyond, parted, within_certificate and is_within_certificate."""

import itertools
import random
import unittest

from by_hand import NUMBERS, PLAIN_OBJECTS, exactly_1999, marked
from compare_by_hand import Two
from forms_by_hand import FREE, ONE, TWO, random_forms, readings_by_text, small_forms
from pairs_by_hand import order
from townlines import compare as module
from townlines.compare import beyond, both, is_within_certificate, parted, within_certificate
from townlines.errors import NotWithin, TooLarge
from townlines.forms import Form
from townlines.items import Field, Mark, Maybe
from townlines.kinds import Kind
from townlines.signs import Signs
from townlines.walks import least_text

LONGEST = 5


def one_field(kind, name="a"):
    return Form([[Field(name, kind)]])


def renamed_forms():
    """Random forms whose fields have names as in the small forms."""
    kinds = [FREE, TWO, ONE, Kind.words(["a", "ab"])]
    spellings = ["{p}", "{q}", "[{p}]", "{p}[{q}]", "{p}{q}", "[{p}]\n[{q}]", "a[{q}]", "{q}{p}", "[{q}][{p}]", "{p}\n{q}"]
    return [Form.parse(spelling, {"p": kinds[at % 4], "q": kinds[(at + shift) % 4]})
            for shift in range(3) for at, spelling in enumerate(spellings)]


def pairs_of_forms():
    draw = random.Random(47)
    forms = [*small_forms()[::2], *random_forms(48, 60), *renamed_forms()]
    pairs = [(draw.choice(forms), draw.choice(forms)) for _ in range(330)]
    renamed = renamed_forms()
    pairs += [(draw.choice(renamed), draw.choice(renamed)) for _ in range(150)]
    return pairs + [(form, form) for form in forms[::4]]


def found_by_trying(one, other):
    """What point 47 and 48 say of the texts of at most LONGEST characters: both, beyond and parted."""
    rows = [{text: [row for row, _ in found] for text, found in readings_by_text(form, LONGEST).items()}
            for form in (one, other)]
    shared = [text for text in rows[0] if text in rows[1]]
    more = [text for text in rows[0] if text not in rows[1]]
    split = [text for text in {**rows[0], **rows[1]} if rows[0].get(text) != rows[1].get(text)]
    least = min(split, key=order, default=None)
    if least is not None:
        differing = [row for row in rows[0].get(least, []) + rows[1].get(least, [])
                     if (row in rows[0].get(least, [])) != (row in rows[1].get(least, []))]
        least = (least, min(differing))
    return min(shared, key=order, default=None), min(more, key=order, default=None), least


class AllShortTexts(unittest.TestCase):
    def test_both_beyond_and_parted(self):
        seen = {}
        for one, other in pairs_of_forms():
            case = (one.spelled(), other.spelled())
            results = (both(one, other), beyond(one, other), parted(one, other))
            for at, (result, expected) in enumerate(zip(results, found_by_trying(one, other))):
                text = result[0] if at == 2 and result else result
                if text is not None and len(text) > LONGEST:
                    self.assertIsNone(expected, case)
                else:
                    self.assertEqual(result, expected, case)
                seen[at, result is None] = seen.get((at, result is None), 0) + 1
            two = Two(one, other)
            self.assertEqual(results[0], two.both(), case)
            self.assertEqual(results[1], two.beyond()[0], case)
            self.assertEqual(results[2] and results[2][0], two.parted_text()[0], case)
        self.assertGreater(min(seen.values()), 15)
        self.assertEqual(len(seen), 6)

    def test_a_form_with_itself(self):
        for form in [*small_forms(), *random_forms(49, 40)]:
            self.assertEqual(both(form, form), least_text(form))
            self.assertIs(beyond(form, form), None)
            self.assertIs(parted(form, form), None)
            self.assertEqual(within_certificate(form, form), Two(form, form).certificate())

    def test_two_orders(self):
        for one, other in pairs_of_forms()[::5]:
            self.assertEqual(both(one, other), both(other, one))
            self.assertEqual(parted(one, other), parted(other, one))

    def test_parted_where_the_texts_are_the_same(self):
        one = Form([[Field("a", TWO), Maybe([Field("b", ONE)])]])
        other = Form([[Field("b", TWO), Maybe([Field("a", ONE)])]])
        self.assertEqual([beyond(one, other), beyond(other, one)], [None, None])
        self.assertEqual(parted(one, other), ("a", ["a"]))
        swapped = Form([[Field("a", TWO), Maybe([Field("b", ONE), Maybe([Field("c", ONE)])])]])
        self.assertEqual(parted(one, swapped), ("aaa", ["a", "b", "c"]))
        self.assertIs(parted(Form([[Field("a", ONE), Mark("b")]]), Form([[Field("a", Kind.words(["a"])), Mark("b")]])), None)


class FourSigns(unittest.TestCase):
    """Larger kinds over the signs a to d, against sets of places."""

    def outcome(self, call):
        try:
            return call()
        except TooLarge:
            return "too large"

    def test_both_beyond_and_parted(self):
        draw = random.Random(46)
        forms = random_forms(45, 60, "abcd")
        seen = {}
        for _ in range(160):
            one, other = draw.choice(forms), draw.choice(forms)
            two = Two(one, other)
            case = (one.spelled(), other.spelled())
            self.assertEqual(both(one, other), two.both(), case)
            text, number = two.beyond()
            found = self.outcome(lambda: beyond(one, other))
            self.assertEqual(found, "too large" if number > 2000 else text, case)
            if text is None and number <= 2000:
                self.assertEqual(within_certificate(one, other), two.certificate(), case)
            split, number = two.parted_text()
            found = self.outcome(lambda: parted(one, other))
            self.assertEqual(found and (found if number > 2000 else found[0]), "too large" if number > 2000 else split, case)
            seen[text is None, split is None] = True
        self.assertEqual(len(seen), 3)


class Ordinary(unittest.TestCase):
    def test_examples(self):
        one = Form.parse("{a}", {"a": Kind.run("ab", 1, 2)})
        other = Form.parse("b[{c}]", {"c": Kind.words(["a"])})
        self.assertEqual([both(one, other), beyond(one, other), beyond(other, one)], ["b", "a", None])
        self.assertEqual(parted(one, other), ("a", ["a"]))
        self.assertEqual(within_certificate(other, one), [(-1, [-1]), (0, [0]), (1, [1])])
        with self.assertRaises(NotWithin) as caught:
            within_certificate(one, other)
        self.assertEqual(caught.exception.text, "a")

    def test_no_shared_text(self):
        self.assertIs(both(one_field(Kind.run("ab", 1, None)), one_field(Kind.run("cd", 1, None))), None)
        even, odd = Kind.words(["aa"]) + Kind.run("a", 0, 2), Kind.run("a") + Kind.run("b", 1, 9)
        self.assertIs(both(one_field(even), one_field(odd)), None)

    def test_the_empty_text(self):
        one, other = Form([[Maybe([Field("a", ONE)])]]), Form([[Maybe([Field("b", TWO)])], [Maybe([Field("c", TWO)])]])
        self.assertEqual([both(one, other), beyond(one, one_field(ONE)), beyond(one_field(ONE), one)], ["", "", None])
        self.assertEqual(parted(one, one_field(ONE)), ("", []))
        self.assertEqual(parted(one, other), ("a", ["a"]))
        self.assertEqual(within_certificate(one, other)[0], (-1, [-1]))

    def test_long_least_texts(self):
        one = one_field(Kind.run("ab", 40, None) + Kind.run("c", 3, 40))
        other = one_field(Kind.run("abc", 0, 40) + Kind.run("abc", 30, 30))
        self.assertEqual(both(one, other), "a" * 40 + "ccc")
        self.assertEqual(beyond(one, other), "a" * 68 + "ccc")
        self.assertEqual(parted(one, other), ("a" * 30, ["a"] * 30))
        long, longer = one_field(Kind.run("a", 40, 40) * 3), one_field(Kind.run("a", 1, None))
        self.assertEqual([both(long, longer), beyond(long, longer), beyond(longer, long)], ["a" * 120, None, "a"])

    def test_the_text_may_be_longer_than_400_characters(self):
        """The lengths are told by rests: the first form has all multiples of 3, the second all but one of 480."""
        rows = [Mark("a" * 9), Field("x", Kind.run("a", 1, None))]
        one = Form([rows])
        limited = Form([[Field("x", Kind.run("a", 10, 40) + Kind.run("a", 0, 40) + Kind.run("a", 0, 40)),
                         Maybe([Field("y", Kind.run("b", 1, 2))])]])
        self.assertEqual(beyond(one, limited), "a" * 121)
        cycles = Form([[Field("x", Kind.run("a", 0, None) + Kind.run("b", 40, 40)), Mark("c" * 100)]])
        self.assertEqual(beyond(cycles, Form([[Field("x", Kind.run("a", 0, 40) + Kind.run("b", 40, 40)), Mark("c" * 100)]])),
                         "a" * 41 + "b" * 40 + "c" * 100)

    def test_line_feeds(self):
        one = Form([[Field("a", FREE)], [Maybe([Field("b", FREE)])]])
        other = Form([[Field("a", FREE)]])
        self.assertEqual([beyond(one, other), beyond(other, one)], ["a\na", None])
        self.assertEqual(parted(one, other), ("a\na", ["a", "", "b"]))
        self.assertEqual(both(one, Form([[Mark("b")], [Field("c", ONE)]])), "b\na")

    def test_forms_without_fields(self):
        one, other = Form([[Mark("ab")]]), Form([[Mark("a"), Maybe([Field("x", Kind.words(["b"]))])]])
        self.assertEqual([both(one, other), beyond(one, other), beyond(other, one)], ["ab", None, "a"])
        self.assertEqual(parted(one, other), ("a", [""]))
        self.assertEqual(parted(one, Form([[Mark("a"), Field("x", Kind.words(["b"]))]])), ("ab", ["", ""]))


class ManyLists(unittest.TestCase):
    def test_beyond_without_a_text(self):
        for more, number in [(None, 1999), (Kind.run("z"), 2000), (Kind.run("z") * 2, 2001), (Kind.words(["y", "z"]), 2001)]:
            form = one_field(exactly_1999() if more is None else exactly_1999() | more)
            self.assertEqual(Two(form, form).beyond(), (None, number))
            if number > 2000:
                for call in [beyond, within_certificate]:
                    with self.assertRaises(TooLarge):
                        call(form, form)
            else:
                self.assertIs(beyond(form, form), None)
                self.assertEqual(len({tuple(stand) for _, stand in within_certificate(form, form)}), number)

    def test_beyond_with_a_text(self):
        """The empty list counts, too; lists of longer texts do not count."""
        for more, length, number in [(Kind.run("z"), 11, 2001), (Kind.run("z"), 3, None),
                                     (Kind.run("y") + Kind.run("z", 40, 40), 1, None)]:
            other = one_field(exactly_1999() | more)
            one = one_field(exactly_1999() | more | Kind.run("x", length, length))
            text, found = Two(one, other).beyond()
            self.assertEqual(text, "x" * length)
            if number is None:
                self.assertLess(found, 2000)
                self.assertEqual(beyond(one, other), text)
                continue
            self.assertEqual(found, number)
            for call in [beyond, within_certificate]:
                with self.assertRaises(TooLarge):
                    call(one, other)
            other, one = one_field(exactly_1999()), one_field(exactly_1999() | Kind.run("x", length, length))
            self.assertEqual(Two(one, other).beyond(), ("x" * length, 2000))
            self.assertEqual(beyond(one, other), "x" * length)
            with self.assertRaises(NotWithin) as caught:
                within_certificate(one, other)
            self.assertEqual(caught.exception.text, "x" * length)

    def test_at_the_very_length(self):
        """One list more with each z, from the length 10 on."""
        kind = Kind.run("z", 1, 40)
        for pair, distance in [("ab", 9), ("cd", 8), ("ef", 7), ("gh", 6), ("ij", 5)]:
            kind = kind | marked(pair, distance)
        other = one_field(kind)
        for length, number in [(13, 1999), (14, 2000), (15, 2001), (16, 2002)]:
            one = one_field(kind | Kind.run("x", length, length))
            self.assertEqual(Two(one, other).beyond(), ("x" * length, number))
            if number > 2000:
                with self.assertRaises(TooLarge):
                    beyond(one, other)
            else:
                self.assertEqual(beyond(one, other), "x" * length)

    def test_only_beginnings_of_the_first_form_count(self):
        other = one_field(marked("ab", 15))
        one = one_field(Kind.run("a", 16, None))
        self.assertIs(beyond(one, other), None)
        self.assertEqual(within_certificate(one, other), Two(one, other).certificate())
        with self.assertRaises(TooLarge):
            beyond(other, other)
        self.assertEqual(both(other, other), "a" * 16)

    def test_parted_without_a_text(self):
        for more, number in [(None, 1999), (Kind.run("z"), 2000), (Kind.run("z") * 2, 2001)]:
            kind = exactly_1999() if more is None else exactly_1999() | more
            one, other = one_field(kind), Form([[Field("a", kind)]])
            self.assertEqual(Two(one, other).parted_text(), (None, number))
            if number > 2000:
                with self.assertRaises(TooLarge):
                    parted(one, other)
            else:
                self.assertIs(parted(one, other), None)

    def test_parted_with_a_text(self):
        """A pair of a list and an empty list counts, one of two empty lists does not."""
        for more, length, number in [(Kind.run("z"), 2, None), (None, 1, None), (None, 12, 2011), (Kind.words(["zz"]), 14, None)]:
            kind = exactly_1999() if more is None else exactly_1999() | more
            one, other = one_field(kind), one_field(kind | Kind.run("x", length, length))
            text, found = Two(one, other).parted_text()
            self.assertEqual(text, "x" * length)
            if found > 2000:
                with self.assertRaises(TooLarge):
                    parted(one, other)
            else:
                self.assertEqual(parted(one, other), (text, ["a"] * length))
            if number is not None:
                self.assertEqual(found, number)

    def test_parted_at_the_very_length(self):
        kind = Kind.run("z", 1, 40)
        for pair, distance in [("ab", 9), ("cd", 8), ("ef", 7), ("gh", 6)]:
            kind = kind | marked(pair, distance)
        # 1,921 pairs from the length 10 on without the z, and with each further character one z and one x more.
        for length in [39, 40]:
            one, other = one_field(kind), one_field(kind | Kind.run("x", length, length))
            text, found = Two(one, other).parted_text()
            self.assertEqual((text, found), ("x" * length, 1921 + 2 * length))
            if found > 2000:
                with self.assertRaises(TooLarge):
                    parted(one, other)
            else:
                self.assertEqual(parted(one, other), (text, ["a"] * length))
        narrow = kind | Kind.run("y")
        one, other = one_field(narrow), one_field(narrow | Kind.run("x", 39, 39))
        self.assertEqual(Two(one, other).parted_text()[1], 2000)
        self.assertEqual(parted(one, other), ("x" * 39, ["a"] * 39))
        narrow = narrow | Kind.run("w")
        one, other = one_field(narrow), one_field(narrow | Kind.run("x", 39, 39))
        self.assertEqual(Two(one, other).parted_text()[1], 2001)
        with self.assertRaises(TooLarge):
            parted(one, other)


class WithinCertificate(unittest.TestCase):
    def test_against_sets_of_places(self):
        seen = [0, 0]
        for one, other in pairs_of_forms():
            two = Two(one, other)
            text = two.beyond()[0]
            seen[text is None] += 1
            if text is None:
                found = within_certificate(one, other)
                self.assertEqual(found, two.certificate(), (one.spelled(), other.spelled()))
                self.assertIs(is_within_certificate(one, other, found), True)
            else:
                with self.assertRaises(NotWithin) as caught:
                    within_certificate(one, other)
                self.assertEqual(caught.exception.text, text)
                self.assertIs(is_within_certificate(one, other, two.certificate()), False)
        self.assertGreater(min(seen), 80)

    def test_one_entry_less(self):
        number = 0
        for one, other in pairs_of_forms():
            if beyond(one, other) is None and number < 1500:
                found = within_certificate(one, other)
                for at in range(len(found)):
                    self.assertIs(is_within_certificate(one, other, found[:at] + found[at + 1:]), False)
                    number += 1
        self.assertGreater(number, 500)

    def test_entries_more(self):
        draw = random.Random(50)
        seen = [0, 0]
        for one, other in pairs_of_forms():
            if beyond(one, other) is None:
                two = Two(one, other)
                found = within_certificate(one, other)
                lasts = [len(form.places()) - 1 for form in (one, other)]
                for _ in range(6):
                    stand = [place for place in range(-1, lasts[1] + 1) if draw.random() < draw.choice([0.2, 0.6, 1])]
                    thing = found + [(draw.randint(-1, lasts[0]), stand)]
                    if draw.random() < 0.5:
                        thing = self.grown(two, thing)
                    draw.shuffle(thing)
                    expected = two.is_certificate(thing)
                    self.assertIs(is_within_certificate(one, other, thing), expected, (one.spelled(), other.spelled(), thing))
                    seen[expected] += 1
        self.assertGreater(min(seen), 100)

    def grown(self, two, thing):
        """The list with all tuples that are reached from its tuples."""
        known = {(place, tuple(stand)) for place, stand in thing}
        waiting = list(known)
        while waiting:
            place, stand = waiting.pop()
            for follower in two.one.after[place]:
                for char in two.one.places[follower][1]:
                    entry = (follower, tuple(sorted(two.other.step(stand, char))))
                    if entry not in known:
                        known.add(entry)
                        waiting.append(entry)
        return [(place, list(stand)) for place, stand in sorted(known)]

    def test_orders_and_duplicates(self):
        for one, other in pairs_of_forms()[::6]:
            if beyond(one, other) is None:
                found = within_certificate(one, other)
                self.assertIs(is_within_certificate(one, other, found[::-1]), True)
                self.assertIs(is_within_certificate(one, other, found * 3), True)

    def test_spoilt_objects(self):
        one, other = one_field(TWO), one_field(FREE)
        found = within_certificate(one, other)
        self.assertEqual(found, [(-1, [-1]), (0, [0]), (1, [0])])
        last, other_last = 1, 0
        for wrong in [tuple(found), found[1:], [found], dict.fromkeys([0, 1]), [], None, "", [[-1, [-1]], *found]]:
            self.assertIs(is_within_certificate(one, other, wrong), False, wrong)
        for entry in [(-1,), (-1, [-1], 0), (), [0, [0]], (-2, [0]), (last + 1, [0]), (0, (0,)), (0, [other_last + 1]), (0, [-2]),
                      (0, [0, 0]), (0, [0, -1]), (True, [0]), (0, [False]), (0, [None]), (0, ["0"]), ("0", [0]), (0, {0: 0}),
                      (None, [0]), (10 ** 30, [0]), (0, [10 ** 30]), (0, 0), (0, "0"), (Signs("a"), [0]), (0, [[0]])]:
            self.assertIs(is_within_certificate(one, other, found + [entry]), False, entry)
            self.assertIs(is_within_certificate(one, other, [entry] + found), False, entry)
        for part in [*PLAIN_OBJECTS, *NUMBERS, "", Signs("a"), ONE, one]:
            self.assertIs(is_within_certificate(one, other, part), False)
            self.assertIs(is_within_certificate(one, other, found + [part]), False)
            self.assertIs(is_within_certificate(one, other, found + [(0, part)]), part == [0])
            self.assertIs(is_within_certificate(one, other, found + [(part, [0])]), part in (-1, 0, 1) and type(part) is int)

    def test_a_stand_with_a_place_twice_or_beyond_the_last_one(self):
        one, other = one_field(TWO), one_field(TWO)
        found = within_certificate(one, other)
        self.assertEqual(found, [(-1, [-1]), (0, [0]), (1, [1])])
        for entry in [(1, [0, 0]), (0, [-1, -1]), (1, [1, 1]), (1, [1, 0])]:
            self.assertIs(is_within_certificate(one, other, found + [entry]), False, entry)
        marked = Form([[Mark("ab")]])
        found = within_certificate(marked, other)
        for place in [2, 3, 10, 10 ** 6]:
            self.assertIs(is_within_certificate(marked, other, found + [(0, [place])]), False)
            self.assertIs(is_within_certificate(marked, other, found + [(place, [0])]), False)

    def test_an_empty_stand(self):
        one, other = Form([[Mark("a"), Maybe([Field("x", ONE)])]]), one_field(FREE)
        found = within_certificate(one, other)
        self.assertIs(is_within_certificate(one, other, found + [(-1, [])]), False)
        self.assertIs(is_within_certificate(one, other, found + [(0, [])]), False)
        must_go_on = Form([[Mark("ab")]])
        found = within_certificate(must_go_on, other)
        self.assertIs(is_within_certificate(must_go_on, other, found + [(0, [])]), False)
        self.assertIs(is_within_certificate(must_go_on, other, found + [(0, []), (1, [])]), False)

    def test_the_place_before_all(self):
        one, other = Form([[Maybe([Field("a", ONE)])]]), Form([[Maybe([Field("b", TWO)])]])
        found = within_certificate(one, other)
        self.assertEqual(found, [(-1, [-1]), (0, [0])])
        self.assertIs(is_within_certificate(one, other, found + [(-1, [-1, 0]), (0, [0, 1])]), True)
        self.assertIs(is_within_certificate(one, other, found + [(-1, [1]), (0, [])]), False)
        strict = one_field(TWO)
        self.assertIs(is_within_certificate(one, strict, found), False)
        self.assertIs(is_within_certificate(strict, one, [(-1, [-1]), (0, [0]), (1, [])]), False)

    def test_what_is_returned_is_new(self):
        one, other = one_field(TWO), one_field(FREE)
        for _ in range(2):
            found = within_certificate(other=other, one=one)
            self.assertEqual(found, [(-1, [-1]), (0, [0]), (1, [0])])
            self.assertIs(is_within_certificate(thing=found, other=other, one=one), True)
            self.assertEqual(found, [(-1, [-1]), (0, [0]), (1, [0])])
            found[1][1].append(5)
            self.assertEqual(found[2], (1, [0]))
            found.clear()
            text, row = parted(other=one, one=other)
            self.assertEqual((text, row), ("aaa", ["a"] * 3))
            row.clear()

    def test_by_name(self):
        one, other = one_field(TWO), one_field(FREE)
        self.assertEqual(both(other=other, one=one), "a")
        self.assertEqual(beyond(other=one, one=other), "aaa")
        with self.assertRaises(NotWithin):
            within_certificate(other=one, one=other)

    def test_the_functions_stand_in_the_module(self):
        for name in ["both", "beyond", "parted", "within_certificate", "is_within_certificate"]:
            self.assertEqual(getattr(module, name).__module__, "townlines.compare")


if __name__ == "__main__":
    unittest.main()
