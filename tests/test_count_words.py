"""Points 13 and 34: Kind.count_words."""

import random
import unittest

from by_hand import ALL_SIGNS, PLAIN_OBJECTS, exactly_1999, is_word, marked, number_of_lists, random_kind, strings
from townlines.errors import BadNumber, TooLarge
from townlines.kinds import Kind
from townlines.signs import Signs


class Counting(unittest.TestCase):
    def check(self, kind, signs, longest):
        numbers = {length: 0 for length in range(longest + 1)}
        for word in strings(signs, longest):
            if is_word(kind, word):
                numbers[len(word)] += 1
        for length, number in numbers.items():
            self.assertEqual(kind.count_words(length), number, (kind.alternatives(), length))

    def test_short_lengths(self):
        for kind in [Kind.run("ab"), Kind.run("ab", 0, 3), Kind.run("a", 2, None), Kind.words(["a", "ab", "ba", "a"]),
                     Kind.run("ab", 0, None) + Kind.run("ab", 0, None), Kind.run("a", 0, 2) + Kind.run("ab", 0, 2),
                     Kind.run("a", 1, 3) | Kind.run("ab", 2, 2), marked("ab", 2), Kind.run("a", 0, 1) * 4,
                     Kind.run("b", 3, None) + Kind.run("b", 2, 2) | Kind.run("b", 4, 4)]:
            self.check(kind, "ab", 7)

    def test_drawn_kinds(self):
        draw = random.Random(13)
        for _ in range(120):
            self.check(random_kind(draw, "ab", 4, 4, 3), "ab", 6)

    def test_three_signs(self):
        draw = random.Random(14)
        for _ in range(40):
            self.check(random_kind(draw, "abc", 3, 3, 2), "abc", 4)

    def test_the_empty_word(self):
        self.assertEqual(Kind.run("a", 0, 2).count_words(0), 1)
        self.assertEqual((Kind.run("a", 0, 2) | Kind.run("b", 0, None)).count_words(0), 1)
        self.assertEqual(Kind.run("a", 1, 2).count_words(0), 0)

    def test_one_word_is_counted_once(self):
        self.assertEqual((Kind.run("a", 0, None) * 9).count_words(60), 1)
        self.assertEqual((Kind.run("ab") | Kind.words(["a", "b"]) | Kind.run("abc", 0, 1)).count_words(1), 3)

    def test_none_of_this_length(self):
        self.assertEqual(Kind.run("a", 1, 40).count_words(41), 0)
        self.assertEqual(Kind.run("a", 1, 40).count_words(60), 0)
        self.assertEqual(Kind.run("a", 40, None).count_words(39), 0)
        self.assertEqual(Kind.words(["abc"]).count_words(2), 0)

    def test_exact_numbers_of_any_size(self):
        self.assertEqual(Kind.run(ALL_SIGNS, 0, None).count_words(60), 94 ** 60)
        self.assertEqual(Kind.run(Signs.letters(), 1, None).count_words(59), 26 ** 59)
        self.assertEqual(marked("ab", 9).count_words(60), 2 ** 59)
        two = Kind.run("ab", 20, 40) + Kind.run("cde", 20, 40)
        self.assertEqual(two.count_words(60), sum(2 ** n * 3 ** (60 - n) for n in range(20, 41)))
        self.assertEqual((Kind.run("a", 0, None) + Kind.run("b", 0, None)).count_words(60), 61)
        three = Kind.run("a", 0, None) + Kind.run("b", 0, None) + Kind.run("c", 0, None)
        self.assertEqual(three.count_words(60), 62 * 61 // 2)

    def test_words_of_length_sixty_in_two_ways(self):
        either = Kind.run("abc", 0, None) + Kind.run("d") | Kind.run("bcd", 0, None)
        self.assertEqual(either.count_words(60), 3 ** 59 + 3 ** 60 - 2 ** 59)

    def test_by_name(self):
        self.assertEqual(Kind.run("ab", 0, None).count_words(length=3), 8)

    def test_wrong_lengths(self):
        things = [*PLAIN_OBJECTS, -1, 61, 62, -60, 10 ** 30, "", "3", Signs("a"), Kind.run("a")]
        for thing in things:
            for kind in [Kind.run("a"), marked("ab", 39)]:
                with self.subTest(thing):
                    with self.assertRaises(BadNumber) as caught:
                        kind.count_words(thing)
                    self.assertIs(caught.exception.number, thing)

    def test_both_ends_of_the_lengths(self):
        kind = Kind.run("ab", 0, None)
        self.assertEqual([kind.count_words(0), kind.count_words(60)], [1, 2 ** 60])


class Limit(unittest.TestCase):
    def check(self, kind, length):
        """Compare with the lists that occur; tell whether there are too many."""
        too_many = number_of_lists(kind, length, 2000) > 2000
        if too_many:
            with self.assertRaises(TooLarge):
                kind.count_words(length)
        else:
            self.assertGreaterEqual(kind.count_words(length), 0)
        return too_many

    def test_how_many_lists_there_are(self):
        self.assertEqual(number_of_lists(exactly_1999(), 60), 1999)
        self.assertEqual(number_of_lists(marked("ab", 9), 60), 1025)
        self.assertEqual(number_of_lists(marked("ab", 10), 10), 1025)
        self.assertEqual(number_of_lists(marked("ab", 10), 11), 2049)

    def test_exactly_two_thousand(self):
        for more in [Kind.run("z"), Kind.run("z", 0, 1), Kind.run("z", 0, None)]:
            kind = exactly_1999() | more
            self.assertEqual(number_of_lists(kind, 60), 2000)
            self.assertEqual(kind.count_words(60), self.expected(60) + ("z" * 60 in more))

    def expected(self, length):
        """The number of words of `exactly_1999()` of a length beyond all distances."""
        return 8 * 2 ** (length - 1)

    def test_one_more(self):
        for more in [Kind.run("z") * 2, Kind.run("z", 0, 2), Kind.words(["y", "z"]), Kind.run("z", 1, None) + Kind.run("y"),
                     Kind.run("z", 2, None)]:
            kind = exactly_1999() | more
            self.assertEqual(number_of_lists(kind, 60), 2001)
            with self.assertRaises(TooLarge):
                kind.count_words(60)
            self.assertTrue(self.check(kind, 12))
            self.assertFalse(self.check(kind, 5))

    def test_only_texts_of_at_most_the_length_count(self):
        kind = marked("ab", 10)
        for length in range(11):
            self.assertEqual(kind.count_words(length), 0)
        for length in range(11, 61):
            with self.assertRaises(TooLarge):
                kind.count_words(length)
        self.assertEqual(marked("ab", 11).count_words(10), 0)

    def test_the_limit_is_reached_at_a_length(self):
        kind = exactly_1999() | Kind.run("z", 20, 20)
        lengths = [length for length in range(61) if self.check(kind, length)]
        self.assertEqual(lengths[-1], 60)
        self.assertEqual(lengths, list(range(lengths[0], 61)))
        self.assertEqual(number_of_lists(kind, lengths[0] - 1) <= 2000 < number_of_lists(kind, lengths[0]), True)

    def test_one_list_more_at_each_length(self):
        chain = marked("ab", 9) | marked("cd", 8) | marked("ef", 7) | Kind.run("z", 40, 40)
        for length in range(8, 20):
            self.check(chain, length)
        for least in [0, 1, 40]:
            kind = marked("ab", 9) | marked("cd", 8) | marked("ef", 7) | marked("gh", 6) | Kind.run("z", least, 40)
            kind = kind | marked("ij", 2) + Kind.run("k", 12, 12)
            for length in [9, 10, 11, 12, 20, 30, 60]:
                self.check(kind, length)

    def test_a_kind_with_the_empty_word(self):
        kind = marked("ab", 10) | Kind.run("z", 0, 1)
        self.assertEqual(kind.count_words(0), 1)
        with self.assertRaises(TooLarge):
            kind.count_words(11)

    def test_even_if_no_word_has_the_length(self):
        kind = marked("ab", 39) + Kind.run("ab", 40, 40)
        with self.assertRaises(TooLarge):
            kind.count_words(60)
        self.assertEqual(kind.count_words(10), 0)

    def test_drawn_kinds_near_the_limit(self):
        draw = random.Random(15)
        seen = {True: 0, False: 0}
        for _ in range(100):
            kind = random_kind(draw, "abcd", 5, 8, 5)
            for length in [draw.randint(4, 9), 60]:
                seen[self.check(kind, length)] += 1
        self.assertGreater(min(seen.values()), 5)


if __name__ == "__main__":
    unittest.main()
