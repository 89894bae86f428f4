import unittest

from whyfacts.fills import filled, matched, tested

MOST = 999999999


class Matched(unittest.TestCase):
    def check(self, pattern, fact, fill, found):
        with self.subTest((pattern, fact, fill)):
            ahead = dict(fill)
            told = matched(pattern, fact, fill)
            self.assertEqual(told, found)
            self.assertEqual(fill, ahead)
            if told is not None:
                self.assertIs(type(told), dict)
                self.assertIsNot(told, fill)

    def test_free_words_are_bound(self):
        self.check(("road", "X", "Y"), ("road", "a", 5), {}, {"X": "a", "Y": 5})
        self.check(("road", "X", "b"), ("road", "a", "b"), {}, {"X": "a"})
        self.check(("w", "A", "B", "C", "D"), ("w", 1, 2, 3, 4), {}, {"A": 1, "B": 2, "C": 3, "D": 4})

    def test_no_free_words(self):
        self.check(("rain",), ("rain",), {}, {})
        self.check(("road", "a", -5), ("road", "a", -5), {"X": 1}, {"X": 1})

    def test_another_name_or_width(self):
        self.check(("road", "X"), ("rod", "a"), {}, None)
        self.check(("rain",), ("snow",), {}, None)
        self.check(("road", "X"), ("road", "a", "b"), {}, None)
        self.check(("road", "X", "Y"), ("road", "a"), {}, None)
        self.check(("road",), ("road", "a"), {}, None)
        self.check(("road", "X"), ("road",), {}, None)

    def test_a_value_that_differs(self):
        self.check(("road", "a", "X"), ("road", "b", "c"), {}, None)
        self.check(("road", "X", 5), ("road", "b", 6), {}, None)
        self.check(("road", 5), ("road", "a"), {}, None)
        self.check(("road", "a"), ("road", 5), {}, None)

    def test_a_word_that_the_fill_tells(self):
        self.check(("road", "X", "Y"), ("road", "a", "b"), {"X": "a"}, {"X": "a", "Y": "b"})
        self.check(("road", "X", "Y"), ("road", "a", "b"), {"X": "b"}, None)
        self.check(("road", "X", "Y"), ("road", "a", "b"), {"Y": 5}, None)
        self.check(("road", "X"), ("road", 0), {"X": 0}, {"X": 0})

    def test_a_word_twice(self):
        self.check(("road", "X", "X"), ("road", "a", "a"), {}, {"X": "a"})
        self.check(("road", "X", "X"), ("road", "a", "b"), {}, None)
        self.check(("road", "X", "Y", "X"), ("road", 1, 2, 1), {"Y": 2}, {"X": 1, "Y": 2})
        self.check(("road", "X", "X"), ("road", "a", "a"), {"X": "b"}, None)

    def test_all_that_the_fill_tells_is_in_the_new_one(self):
        self.check(("road", "X"), ("road", "a"), {"Z": 1, "W": "b"}, {"Z": 1, "W": "b", "X": "a"})
        self.check(("rain",), ("rain",), {"Z": 1}, {"Z": 1})

    def test_the_new_fill_may_be_changed(self):
        for pattern, fact in [(("road", "X"), ("road", "a")), (("rain",), ("rain",))]:
            fill = {"Z": 1}
            told = matched(pattern, fact, fill)
            told["Z"] = 2
            told["V"] = 3
            self.assertEqual(fill, {"Z": 1})

    def test_what_lies_beyond_the_bounds(self):
        self.check(("w", 1, 2, 3, 4, "X"), ("w", 1, 2, 3, 4, 5), {}, {"X": 5})


class Filled(unittest.TestCase):
    def check(self, pattern, fill, fact):
        with self.subTest((pattern, fill)):
            ahead = dict(fill)
            told = filled(pattern, fill)
            self.assertEqual(told, fact)
            self.assertIs(type(told), tuple)
            self.assertEqual(fill, ahead)

    def test_patterns_without_free_words(self):
        self.check(("rain",), {}, ("rain",))
        self.check(("road", "a", 5), {"X": 1}, ("road", "a", 5))

    def test_free_words(self):
        self.check(("road", "X", "Y"), {"X": "a", "Y": -5}, ("road", "a", -5))
        self.check(("road", "X", "b", "Y"), {"Y": 0, "X": "a", "Z": 1}, ("road", "a", "b", 0))

    def test_one_word_twice(self):
        self.check(("road", "X", "X"), {"X": "a"}, ("road", "a", "a"))


class Tested(unittest.TestCase):
    def check(self, part, fill, found):
        with self.subTest((part, fill)):
            ahead = dict(fill)
            told = tested(part, fill)
            self.assertEqual(told, found)
            self.assertEqual(fill, ahead)
            if told is not None:
                told["Zz"] = 1
                self.assertEqual(fill, ahead)

    def so(self, part, fill):
        self.check(part, fill, dict(fill))

    def not_so(self, part, fill):
        self.check(part, fill, None)

    def test_less(self):
        self.so(("less", 1, 2), {})
        self.so(("less", "X", "Y"), {"X": -5, "Y": 0, "Z": "a"})
        self.so(("less", "X", 3), {"X": 2})
        self.so(("less", -MOST, MOST), {})
        self.not_so(("less", 2, 1), {})
        self.not_so(("less", 2, 2), {})
        self.not_so(("less", "X", "X"), {"X": 2})
        self.not_so(("less", "Y", "X"), {"X": -5, "Y": 0})

    def test_less_of_names(self):
        for one, other in [("a", "b"), ("a", 1), (1, "a"), ("a", "a"), (-1, "z")]:
            self.not_so(("less", one, other), {})
            self.not_so(("less", "X", "Y"), {"X": one, "Y": other})

    def test_same(self):
        self.so(("same", 1, 1), {})
        self.so(("same", "a", "a"), {})
        self.so(("same", "X", "Y"), {"X": "a", "Y": "a"})
        self.so(("same", "X", "X"), {"X": 0})
        self.so(("same", "X", -5), {"X": -5, "Z": 1})
        for one, other in [(1, 2), ("a", "b"), ("a", 1), (1, "a"), (0, "a"), (5, -5)]:
            self.not_so(("same", one, other), {})
            self.not_so(("same", "X", other), {"X": one})

    def test_plus_with_a_both_that_is_told(self):
        self.so(("plus", 1, 2, 3), {})
        self.so(("plus", "X", 2, "Y"), {"X": 1, "Y": 3})
        self.so(("plus", "X", "X", "X"), {"X": 0})
        self.so(("plus", 5, -5, 0), {})
        self.not_so(("plus", 1, 2, 4), {})
        self.not_so(("plus", "X", 2, "Y"), {"X": 1, "Y": 4})
        self.not_so(("plus", "X", "X", "X"), {"X": 1})
        self.not_so(("plus", 1, 2, "a"), {})
        self.not_so(("plus", 1, 2, "Y"), {"Y": "a"})

    def test_plus_with_a_both_that_is_not_told(self):
        self.check(("plus", 1, 2, "Y"), {}, {"Y": 3})
        self.check(("plus", "X", "X", "Y"), {"X": -5, "Z": "a"}, {"X": -5, "Z": "a", "Y": -10})
        self.check(("plus", "X", -5, "Y"), {"X": 5}, {"X": 5, "Y": 0})

    def test_sums_at_the_bounds_and_beyond(self):
        self.check(("plus", MOST - 1, 1, "Y"), {}, {"Y": MOST})
        self.check(("plus", 1 - MOST, -1, "Y"), {}, {"Y": -MOST})
        self.check(("plus", MOST, -MOST, "Y"), {}, {"Y": 0})
        self.so(("plus", MOST - 1, 1, MOST), {})
        self.not_so(("plus", MOST, 1, "Y"), {})
        self.not_so(("plus", -MOST, -1, "Y"), {})
        self.not_so(("plus", MOST, MOST, "Y"), {})
        self.not_so(("plus", "X", 1, "Y"), {"X": MOST, "Y": MOST})

    def test_names_among_one_and_other(self):
        for one, other in [("a", 1), (1, "a"), ("a", "b"), ("a", "a")]:
            self.not_so(("plus", one, other, "Y"), {})
            self.not_so(("plus", "X", "Y", "Z"), {"X": one, "Y": other})
            self.not_so(("plus", one, other, "ab"), {})


if __name__ == "__main__":
    unittest.main()
