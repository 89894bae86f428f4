import itertools
import random
import string
import unittest

from helper import odd_things
from whyfacts import words
from whyfacts.words import is_free, is_name, is_number, is_term, is_value, rank_of

KEPT = ["has", "not", "less", "same", "plus", "if", "by", "is", "count", "sum", "least", "most", "why"]
GOOD_NAMES = ["a", "z", "m", "road", "abcdefgh", "zzzzzzzz", "hasx", "xhas", "ha", "nots", "counts", "rule", "gather",
              "told", "of", "if" * 2]
BAD_NAMES = ["", "abcdefghi", "A", "Road", "roaD", "roAd", "a1", "1a", "1", "r2d", " ", " a", "a ", "a b", "\n", "a\n",
             "\na", "a\tb", "a_b", "_", "a-b", "a.", ".a", "a,b", "`", "{", "@", "[", "a\0", "\xe9", "a\xe9", "\xdf",
             "\uff41", "\u0430", "\xaa", "\u02b0", "\u0131"]
GOOD_FREE = ["A", "Z", "M", "X", "Xy", "Road", "Abcdefgh", "Zzzzzzzz", "Has", "Not", "Count", "Why"]
BAD_FREE = ["", "Abcdefghi", "a", "aB", "AB", "ABc", "AbC", "Ab1", "A1", "1A", "1", " A", "A ", "A b", "A\n", "\nA",
            "A_", "_A", "A-b", "@", "[", "A`", "A{", "\xc9", "A\xe9", "\uff21", "\u0410", "\u01c5", "A\xdf"]
GOOD_NUMBERS = [0, 1, -1, 7, -42, 999999998, 999999999, -999999998, -999999999]
BAD_NUMBERS = [1000000000, -1000000000, 10 ** 30, -(10 ** 30), True, False, 1.0, 0.0, "1", "-1", "0"]


class NumbersOfBounds(unittest.TestCase):
    def test_the_five_bounds(self):
        self.assertEqual(words.MOST_RULES, 20)
        self.assertEqual(words.MOST_FACTS, 200)
        self.assertEqual(words.MOST_FILLS, 2000)
        self.assertEqual(words.MOST_WIDTH, 4)
        self.assertEqual(words.MOST_PARTS, 6)


class KindsOfWords(unittest.TestCase):
    def check(self, ask, yes, no):
        for thing in yes:
            with self.subTest(yes=thing):
                self.assertIs(ask(thing), True)
        for thing in no:
            with self.subTest(no=thing):
                self.assertIs(ask(thing), False)

    def test_names(self):
        self.check(is_name, GOOD_NAMES, BAD_NAMES + KEPT + GOOD_FREE + GOOD_NUMBERS + BAD_NUMBERS)

    def test_free_words(self):
        self.check(is_free, GOOD_FREE, BAD_FREE + KEPT + GOOD_NAMES + GOOD_NUMBERS + BAD_NUMBERS)

    def test_numbers(self):
        self.check(is_number, GOOD_NUMBERS, BAD_NUMBERS + GOOD_NAMES + GOOD_FREE)

    def test_values(self):
        self.check(is_value, GOOD_NAMES + GOOD_NUMBERS, KEPT + GOOD_FREE + BAD_NAMES + BAD_NUMBERS)

    def test_terms(self):
        bad = [word for word in BAD_NAMES + BAD_FREE if word not in GOOD_FREE + GOOD_NAMES]
        self.check(is_term, GOOD_NAMES + GOOD_NUMBERS + GOOD_FREE, KEPT + bad + BAD_NUMBERS)

    def test_every_letter_and_no_other_sign(self):
        for code in range(0x250):
            sign = chr(code)
            with self.subTest(code):
                self.assertIs(is_name(sign), sign in string.ascii_lowercase)
                self.assertIs(is_free(sign), sign in string.ascii_uppercase)

    def test_another_sign_at_each_place(self):
        for sign in ["A", "7", " ", "\n", "\r", "-", "_", ".", "\xe9", "\u0430"]:
            for place in range(8):
                spoilt = "abcdefgh"[:place] + sign + "abcdefgh"[place + 1:]
                with self.subTest(spoilt):
                    self.assertIs(is_name(spoilt), False)
                    self.assertIs(is_free(spoilt), False if place or sign != "A" else True)
                    self.assertIs(is_free("A" + spoilt[:7]), place == 7)

    def test_lengths(self):
        for length in range(12):
            with self.subTest(length):
                self.assertIs(is_name("q" * length), 1 <= length <= 8)
                self.assertIs(is_free("Q" + "q" * length), length <= 7)

    def test_things_of_any_kind_are_none(self):
        for place, thing in enumerate(odd_things() + [["a"], ["A"], [1], ("a",), ("A",), (1,), [], {"A": 1}]):
            for ask in (is_name, is_free, is_number, is_value, is_term):
                with self.subTest(place=place, ask=ask.__name__):
                    self.assertIs(ask(thing), False)


class OrderOfFacts(unittest.TestCase):
    IN_ORDER = [
        ("a",),
        ("a", -999999999),
        ("a", -10),
        ("a", -9),
        ("a", 0),
        ("a", 2),
        ("a", 10),
        ("a", 999999999),
        ("a", "a"),
        ("a", "ab"),
        ("a", "b"),
        ("a", -5, "z"),
        ("a", 1, 2),
        ("a", 1, 10),
        ("a", 1, "a"),
        ("a", 2, 1),
        ("a", "a", 5),
        ("a", "a", "a"),
        ("a", "b", 0),
        ("a", 0, 0, 0),
        ("a", 0, 0, "a"),
        ("a", 0, 0, 0, 0),
        ("a", "z", "z", "z", "y"),
        ("a", "z", "z", "z", "z"),
        ("ab",),
        ("ab", 0),
        ("b",),
        ("b", 1),
        ("zz", "a", "a"),
    ]

    def test_every_two_stand_in_order(self):
        for one, other in itertools.combinations(self.IN_ORDER, 2):
            with self.subTest(one=one, other=other):
                self.assertLess(rank_of(one), rank_of(other))

    def test_sorted_by_rank(self):
        source = random.Random(3)
        for _ in range(50):
            mixed = source.sample(self.IN_ORDER, len(self.IN_ORDER))
            self.assertEqual(sorted(mixed, key=rank_of), self.IN_ORDER)

    def test_a_rank_is_a_tuple_and_alike_for_the_same_fact(self):
        for fact in self.IN_ORDER:
            with self.subTest(fact):
                self.assertIsInstance(rank_of(fact), tuple)
                self.assertEqual(rank_of(fact), rank_of(tuple(list(fact))))


if __name__ == "__main__":
    unittest.main()
