"""Points 40 to 42: certificate and is_certificate."""

import random
import unittest

from by_hand import NUMBERS, PLAIN_OBJECTS
from forms_by_hand import FREE, ONE, TWO, random_forms, small_forms
from pairs_by_hand import Steps
from townlines.errors import NotSingle
from townlines.forms import Form
from townlines.items import Field, Mark, Maybe
from townlines.kinds import Kind
from townlines.signs import Signs
from townlines.verdicts import certificate, is_certificate, twice

FORMS = [*small_forms(), *random_forms(40, 200)]


def single_forms():
    """Forms that are single though two walks of one text can go unlike ways for a while."""
    kinds = {"a": Kind.run("ab", 1, 2), "b": FREE, "c": Kind.run("b", 1, None), "d": Kind.words(["ab", "ba"]),
             "e": Kind.run("a", 0, 2) + Kind.run("b"), "f": Kind.run("a", 0, 2) + Kind.run("b")}
    spellings = ["{a}c[{b}]", "[{a}c]d{b}", "[{c}a]{d}c", "{e}[{f}c]", "{c}a[{b}]", "{d}[{c}d]\n[{b}]", "[{a}c]{b}d",
                 "[{a}\\[]{b}x", "ab[{a}c]\n[d{b}]", "{d}\n[{a}]", "[{d}c{a}]", "[{d}x][{c}y][{b}z]"]
    return [Form.parse(spelling, kinds) for spelling in spellings]


class Certificates(unittest.TestCase):
    def test_against_the_closing_by_hand(self):
        seen = [0, 0]
        unlike_pairs = 0
        for form in FORMS + single_forms():
            steps = Steps(form)
            seen[steps.is_single()] += 1
            if steps.is_single():
                result = certificate(form)
                self.assertEqual(result, steps.closing(), form.spelled())
                self.assertEqual([type(result), type(result[0]), type(result[1])], [tuple, list, list])
                self.assertIs(is_certificate(form, result), True)
                unlike_pairs += len(result[1]) > 0
            else:
                with self.assertRaises(NotSingle) as caught:
                    certificate(form)
                self.assertEqual(caught.exception.text, twice(form)[0])
                self.assertIs(is_certificate(form, steps.closing()), False)
        self.assertGreater(min(seen), 60)
        self.assertGreater(unlike_pairs, 20)

    def test_examples(self):
        form = Form.parse("-[{c}]", {"c": Kind.run("z", 1, None)})
        self.assertEqual(certificate(form), ([(-1, -1), (0, 0), (1, 1)], []))
        form = Form.parse("{a}{b}[{c}]", {"a": Kind.run("xy", 1, 2), "b": Kind.run("y", 1, 2), "c": Kind.words(["z"])})
        with self.assertRaises(NotSingle) as caught:
            certificate(form)
        self.assertEqual(caught.exception.text, "xyy")

    def test_pairs_in_both_lists(self):
        form = Form.parse("[{a}x][{b}y]a", {"a": FREE, "b": FREE})
        same, unlike = certificate(form)
        self.assertEqual((same, unlike), Steps(form).closing())
        self.assertTrue(unlike)
        self.assertEqual(same, sorted(set(same)))
        self.assertEqual(unlike, sorted(set(unlike)))
        both = Form.parse("[{a}{b}]c", {"a": Kind.words(["ab", "aab"]), "b": Kind.words(["ba", "bb"])})
        self.assertEqual(certificate(both), Steps(both).closing())

    def test_a_kind_with_several_walks(self):
        kind = Kind.run("a", 0, None) + Kind.run("ab", 1, None) | Kind.run("ab", 2, 3)
        form = Form([[Field("a", kind)]])
        same, unlike = certificate(form)
        self.assertEqual((same, unlike), Steps(form).closing())
        self.assertEqual(unlike, [])
        self.assertGreater(len(same), len(form.places()) + 1)


class IsCertificate(unittest.TestCase):
    def judge(self, form, same, unlike):
        """Compare with the rules of point 42."""
        expected = Steps(form).is_certificate(same, unlike)
        self.assertIs(is_certificate(form, (same, unlike)), expected, (form.spelled(), same, unlike))
        return expected

    def test_one_pair_less(self):
        seen = [0, 0]
        for form in single_forms() + FORMS[::5]:
            if Steps(form).is_single():
                same, unlike = certificate(form)
                for at in range(len(same)):
                    seen[self.judge(form, same[:at] + same[at + 1:], unlike)] += 1
                for at in range(len(unlike)):
                    seen[self.judge(form, same, unlike[:at] + unlike[at + 1:])] += 1
        self.assertGreater(seen[False], 300)
        self.assertEqual(seen[True], 0)

    def test_one_pair_more(self):
        seen = [0, 0]
        for form in single_forms() + FORMS[::12]:
            if Steps(form).is_single():
                same, unlike = certificate(form)
                last = len(form.places()) - 1
                for pair in [(one, two) for one in range(-1, last + 1) for two in range(-1, last + 1)]:
                    seen[self.judge(form, same + [pair], unlike)] += 1
                    seen[self.judge(form, same, [pair] + unlike)] += 1
                    seen[self.judge(form, [pair] + same, unlike + [pair])] += 1
        self.assertGreater(min(seen), 200)

    def test_drawn_lists(self):
        draw = random.Random(42)
        seen = [0, 0]
        for form in single_forms() + FORMS[::9]:
            steps = Steps(form)
            if steps.is_single():
                same, unlike = certificate(form)
                last = len(form.places()) - 1
                for _ in range(30):
                    more = [(draw.randint(-1, last), draw.randint(-1, last)) for _ in range(draw.randint(0, 2))]
                    one, two = self.grown(steps, same, unlike, more) if draw.random() < 0.7 else (same + more, unlike)
                    draw.shuffle(one)
                    draw.shuffle(two)
                    seen[self.judge(form, one, two)] += 1
        self.assertGreater(min(seen), 40)

    def grown(self, steps, same, unlike, more):
        """The lists with some pairs more and what is reached from them."""
        known = {(pair, False) for pair in [*same, *more]} | {(pair, True) for pair in unlike}
        waiting = list(known)
        while waiting:
            pair, is_unlike = waiting.pop()
            for target in steps.steps(pair):
                state = (target, is_unlike or not steps.alike(*target))
                if state not in known:
                    known.add(state)
                    waiting.append(state)
        return [[pair for pair, is_unlike in sorted(known) if is_unlike is wanted] for wanted in (False, True)]

    def test_orders_and_duplicates(self):
        for form in single_forms():
            same, unlike = certificate(form)
            self.assertIs(is_certificate(form, (same[::-1], unlike[::-1])), True)
            self.assertIs(is_certificate(form, (same * 3, unlike * 2)), True)
            self.assertIs(is_certificate(form, (same[1:], unlike)), False)

    def test_all_pairs_are_no_certificate(self):
        for form in single_forms():
            last = len(form.places()) - 1
            pairs = [(one, two) for one in range(-1, last + 1) for two in range(-1, last + 1)]
            self.assertIs(is_certificate(form, (pairs, pairs)), False)

    def test_the_place_before_all(self):
        """The place -1 can end if the form may be empty; then no pair of two such places may be unlike."""
        may_be = Form.parse("[{a}]", {"a": ONE})
        must_be = Form.parse("{a}", {"a": Kind.words(["ab"])})
        for form, can_end in [(may_be, True), (must_be, False)]:
            last = len(form.places()) - 1
            same, unlike = certificate(form)
            self.assertIs(is_certificate(form, (same, unlike + [(-1, -1), *same])), False)
            self.assertIs(is_certificate(form, (same, unlike + [(last, -1)])), not can_end)
            self.assertIs(is_certificate(form, (same, unlike + [(-1, last)])), not can_end)
            self.assertIs(is_certificate(form, (same + [(last, -1)], unlike)), True)

    def test_spoilt_objects(self):
        form = Form.parse("[{a}x][{b}y]a", {"a": FREE, "b": FREE})
        same, unlike = certificate(form)
        last = len(form.places()) - 1
        self.assertIs(is_certificate(form, (same, unlike)), True)
        for wrong in [[same, unlike], (same,), (same, unlike, []), (tuple(same), unlike), (same, tuple(unlike)),
                      (dict(same), unlike), (same, None), (unlike, same), ([], []), ((same, unlike),), "", "ab"]:
            self.assertIs(is_certificate(form, wrong), False, wrong)
        for pair in [[-1, -1], (-1,), (-1, -1, -1), (), (-2, -1), (-1, -2), (last + 1, 0), (0, last + 1), (True, 1), (1, False),
                     ("0", 0), (0, None), ((0,), 0), (10 ** 30, 0), (-10 ** 30, 0), "ab", (Signs("a"), 0)]:
            self.assertIs(is_certificate(form, (same + [pair], unlike)), False, pair)
            self.assertIs(is_certificate(form, (same, [pair] + unlike)), False, pair)
        for part in [*PLAIN_OBJECTS, *NUMBERS, Signs("a"), ONE, form]:
            self.assertIs(is_certificate(form, part), False)
            self.assertIs(is_certificate(form, (same, [part])), False)
            self.assertIs(is_certificate(form, ([part], unlike)), False)
            if part != []:
                self.assertIs(is_certificate(form, (same, part)), False)
            self.assertIs(is_certificate(form, (part, unlike)), False)

    def test_true_is_no_place(self):
        form = Form([[Mark("ab")]])
        self.assertEqual(certificate(form), ([(-1, -1), (0, 0), (1, 1)], []))
        self.assertIs(is_certificate(form, ([(-1, -1), (0, 0), (True, 1)], [])), False)
        self.assertIs(is_certificate(form, ([(-1, -1), (0, False), (1, 1)], [])), False)

    def test_no_form_that_is_not_single_has_one(self):
        form = Form([[Field("a", TWO), Field("b", TWO)]])
        same, unlike = Steps(form).closing()
        draw = random.Random(41)
        for _ in range(300):
            some = [pair for pair in same if draw.random() < 0.9], [pair for pair in unlike if draw.random() < 0.8]
            self.assertIs(is_certificate(form, some), False)

    def test_nothing_is_changed(self):
        form = single_forms()[0]
        for _ in range(2):
            same, unlike = certificate(form)
            self.assertEqual((same, unlike), Steps(form).closing())
            thing = (list(same), list(unlike))
            is_certificate(form, thing)
            self.assertEqual(thing, (same, unlike))
            same.clear()
            unlike.append(None)

    def test_by_name(self):
        form = Form([[Mark("a")], [Maybe([Field("a", ONE)])]])
        self.assertIs(is_certificate(thing=certificate(form=form), form=form), True)


if __name__ == "__main__":
    unittest.main()
