"""Points 24 to 28: places, firsts, lasts, after and may_be_empty."""

import unittest

from by_hand import ALL_SIGNS, PLAIN_OBJECTS
from forms_by_hand import (SMALL_KINDS, Walks, form_walks, owners_of, places, random_forms, readings_by_text, records,
                           small_forms, text_of)
from townlines.errors import BadNumber
from townlines.forms import Form
from townlines.items import Field, Mark, Maybe
from townlines.kinds import Kind
from townlines.signs import Signs

A = Kind.run("a")


def of_kind(kind):
    return Form([[Field("f", kind)]])


def follow(form):
    """What follows each place, from -1 on."""
    return [form.after(place) for place in range(-1, len(form.places()))]


class Places(unittest.TestCase):
    def test_a_run_has_most_places(self):
        for most in [1, 2, 40]:
            self.assertEqual(of_kind(Kind.run("ba", 1, most)).places(), [("f", "ab")] * most)

    def test_a_run_without_an_upper_bound(self):
        for least, number in [(1, 1), (2, 2), (40, 40)]:
            self.assertEqual(of_kind(Kind.run("a", least, None)).places(), [("f", "a")] * number)
        self.assertEqual(of_kind(Kind.run("a", 0, None) + A).places(), [("f", "a")] * 2)

    def test_alternative_by_alternative_and_run_by_run(self):
        kind = Kind.run("ab", 0, 2) + Kind.run("c", 2, None) | Kind.words(["zy"]) | Kind.run("x", 1, None)
        self.assertEqual(of_kind(kind).places(),
                         [("f", chars) for chars in ["ab", "ab", "c", "c", "z", "y", "x"]])

    def test_marks_line_feeds_and_groups(self):
        form = Form([[Mark("xy"), Field("a", A), Maybe([Mark("-"), Field("b", Kind.run("01", 1, 2))])],
                     [Maybe([Field("c", A), Maybe([Mark("z"), Field("d", A)])])], [Mark("!")]])
        self.assertEqual(form.places(), [
            (None, "x"), (None, "y"), ("a", "a"), (None, "-"), ("b", "01"), ("b", "01"), (None, "\n"), ("c", "a"),
            (None, "z"), ("d", "a"), (None, "\n"), (None, "!")])

    def test_all_signs(self):
        self.assertEqual(of_kind(Kind.run(ALL_SIGNS[::-1])).places(), [("f", ALL_SIGNS)])

    def test_by_hand(self):
        for form in [*small_forms(), *random_forms(24, 300)]:
            self.assertEqual(form.places(), places(form))

    def test_tuples_in_a_new_list(self):
        form = of_kind(Kind.run("a", 1, 2))
        found = form.places()
        self.assertIs(type(found), list)
        self.assertEqual([type(place) for place in found], [tuple, tuple])
        found.append(None)
        found[0] = None
        self.assertEqual(form.places(), [("f", "a")] * 2)


class Ways(unittest.TestCase):
    def test_the_interface(self):
        town = Kind.run(Signs.letters(), 1, None)
        kinds = {"road": town, "house": Kind.run(Signs.digits(), 1, 3), "town": town}
        form = Form.parse("{road}[ {house}]\nto {town}", kinds)
        self.assertEqual([form.firsts(), form.after(0), form.after(2), form.lasts()],
                         [[0], [0, 1, 5], [3, 5], [9]])
        self.assertIs(form.may_be_empty, False)

    def test_one_run(self):
        self.assertEqual(follow(of_kind(Kind.run("a", 2, 4))), [[0], [1], [2], [3], []])
        self.assertEqual(of_kind(Kind.run("a", 2, 4)).lasts(), [1, 2, 3])
        self.assertEqual(follow(of_kind(Kind.run("a", 2, None))), [[0], [1], [1]])
        self.assertEqual(of_kind(Kind.run("a", 2, None)).lasts(), [1])
        self.assertEqual(follow(of_kind(Kind.run("a", 1, None))), [[0], [0]])

    def test_runs_of_least_nothing(self):
        form = of_kind(Kind.run("a", 0, 2) + Kind.run("b", 0, None) + Kind.run("c", 1, 2))
        self.assertEqual(follow(form), [[0, 2, 3], [1, 2, 3], [2, 3], [2, 3], [4], []])
        self.assertEqual(form.lasts(), [3, 4])
        form = of_kind(Kind.run("a") + Kind.run("b", 0, None) + Kind.run("c", 0, 1))
        self.assertEqual(follow(form), [[0], [1, 2], [1, 2], []])
        self.assertEqual(form.lasts(), [0, 1, 2])

    def test_alternatives(self):
        form = of_kind(Kind.words(["ab", "c"]) | Kind.run("d", 1, None))
        self.assertEqual(follow(form), [[0, 2, 3], [1], [], [], [3]])
        self.assertEqual(form.lasts(), [1, 2, 3])

    def test_groups_and_lines(self):
        form = Form([[Maybe([Field("a", A)]), Maybe([Mark("x"), Field("b", A), Maybe([Field("c", A)])])],
                     [Maybe([Field("d", A)])], [Maybe([Field("e", A)])]])
        # a 0; x 1, b 2, c 3; feed 4, d 5; feed 6, e 7
        self.assertEqual(follow(form), [[0, 1, 5, 7], [1, 4, 6], [2], [3, 4, 6], [4, 6], [5], [6], [7], []])
        self.assertEqual(form.lasts(), [0, 2, 3, 5, 7])
        self.assertIs(form.may_be_empty, True)

    def test_a_line_between_two_that_may_be_left_out(self):
        form = Form([[Maybe([Field("a", A)])], [Mark("x")], [Maybe([Field("b", A)])]])
        # a 0; feed 1, x 2; feed 3, b 4
        self.assertEqual(follow(form), [[0, 2], [1], [2], [3], [4], []])
        self.assertEqual(form.lasts(), [2, 4])
        self.assertIs(form.may_be_empty, False)

    def test_by_hand(self):
        for form in [*small_forms(), *random_forms(25, 400)]:
            walks = Walks(form)
            with self.subTest(form.spelled()):
                self.assertEqual(form.firsts(), sorted(walks.after[-1]))
                self.assertEqual(form.lasts(), sorted(walks.lasts))
                self.assertIs(form.may_be_empty, walks.may_be_empty)
                for place in range(-1, len(form.places())):
                    self.assertEqual(form.after(place), sorted(walks.after[place]))
                self.assertEqual(form.after(-1), form.firsts())

    def test_drawn_kinds_with_several_alternatives(self):
        for one in SMALL_KINDS:
            for two in SMALL_KINDS:
                kind = one | two + one
                walks = Walks(of_kind(kind))
                self.assertEqual(follow(of_kind(kind)), [sorted(walks.after[at]) for at in range(-1, len(walks.places))])
                self.assertEqual(of_kind(kind).lasts(), sorted(walks.lasts))

    def test_new_lists(self):
        form = of_kind(Kind.run("a", 1, 3))
        for call in [form.firsts, form.lasts, lambda: form.after(0), lambda: form.after(-1)]:
            expected = list(call())
            found = call()
            self.assertIs(type(found), list)
            found.append(99)
            found[0] = None
            self.assertEqual(call(), expected)

    def test_wrong_places(self):
        form = Form([[Mark("xy"), Field("a", Kind.run("a", 1, 3))]])
        for thing in [*PLAIN_OBJECTS, -2, 5, 6, -100, 10 ** 30, "", "0", Signs("a"), A]:
            with self.subTest(thing), self.assertRaises(BadNumber) as caught:
                form.after(thing)
            self.assertIs(caught.exception.number, thing)
        self.assertEqual([form.after(place=-1), form.after(place=4)], [[0], []])

    def test_may_be_empty_is_a_flag(self):
        for spelling, expected in [("[{a}]", True), ("[{a}]\n[{b}]", True), ("[{a}]x", False), ("x\n[{a}]", False),
                                   ("{a}[{b}]", False), ("[{a}]\nx", False), ("[{a}][{b}[{c}]]", True)]:
            form = Form.parse(spelling, {name: A for name in "abc"})
            self.assertIs(form.may_be_empty, expected)


class Facts(unittest.TestCase):
    """Point 28, and that the walks of records are those of the places."""

    def forms(self):
        return [*small_forms(), *random_forms(28, 200)]

    def test_every_place_stands_in_some_walk(self):
        for form in self.forms():
            self.assertEqual({place for walk in form_walks(form) for place in walk}, set(range(len(form.places()))))

    def test_a_place_that_follows_is_greater_or_the_same_last_place_of_a_run(self):
        for form in self.forms():
            for place in range(len(form.places())):
                for later in form.after(place):
                    self.assertGreaterEqual(later, place)

    def test_different_records_have_different_owners(self):
        for form in self.forms():
            for rows in readings_by_text(form, 5).values():
                self.assertEqual(len({tuple(owners) for owners, _ in rows}), len(rows))

    def test_the_ways_lead_to_the_texts_of_the_records_and_their_owners(self):
        for form in self.forms():
            found = form.places()
            texts = {(text_of(form, record), tuple(owners_of(form, record))) for record in records(form, 4)}
            reached = {((), ())} if form.may_be_empty else set()
            newest = [((), (), -1)]
            for _ in range(4):
                newest = [(text + (char,), owners + (found[place][0] or "",), place) for text, owners, at in newest
                          for place in form.after(at) for char in found[place][1]]
                newest = list(dict.fromkeys(newest))
                reached |= {(text, owners) for text, owners, at in newest if at in form.lasts()}
            self.assertEqual({("".join(text), owners) for text, owners in reached}, texts)


if __name__ == "__main__":
    unittest.main()
