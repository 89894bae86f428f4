import unittest

from helper import TOLD, by, has, of
from whyfacts.drawing import drawn
from whyfacts.reading import read_program
from whyfacts.whys import why_of
from whyfacts.working import worked


def drawn_in(text, fact):
    rules, told = read_program(text)
    return drawn(why_of(worked(rules, told), fact))


class Drawing(unittest.TestCase):
    def test_told(self):
        self.assertEqual(drawn([(("road", "a", "b"), TOLD)]), ["1 road(a, b): told"])
        self.assertEqual(drawn([(("rain",), TOLD), (("load", "c", -5), TOLD)]), ["1 rain: told", "2 load(c, -5): told"])

    def test_the_row_of_the_document(self):
        row = [(("road", "a", "b"), TOLD), (("way", "b", "c"), TOLD),
               (("way", "a", "c"), by(1, has("way", "b", "c"), has("road", "a", "b"), ("not", ("shut", "c")))),
               (("many", 2), of(0, (), (has("road", "a", "b"),), (has("way", "b", "c"),)))]
        self.assertEqual(drawn(row), ["1 road(a, b): told", "2 way(b, c): told",
                                      "3 way(a, c): by 1 from 2, 1, not shut(c)",
                                      "4 many(2): of 0 from 1; 2"])

    def test_each_kind_of_ground(self):
        row = [(("n", 1), TOLD), (("p",), by(12, has("n", 1), ("not", ("r",)), ("not", ("r", 1, "a")), ("less", 1, 5),
                                             ("same", "a", "a"),
                                             ("plus", 1, -2, -1)))]
        self.assertEqual(drawn(row)[1],
                         "2 p: by 12 from 1, not r, not r(1, a), less(1, 5), same(a, a), plus(1, -2, -1)")

    def test_grounds_without_a_has(self):
        self.assertEqual(drawn([(("p",), by(0, ("not", ("q",))))]), ["1 p: by 0 from not q"])
        self.assertEqual(drawn([(("p", 3), of(4, (), (("plus", 1, 2, 3),)))]), ["1 p(3): of 4 from plus(1, 2, 3)"])

    def test_an_of_with_several_fills_of_several_parts(self):
        self.assertEqual(drawn_in("g(X, N) if N is sum W by X: w(X, W), not z(W), s. w(a, 2). w(a, 1). w(b, 7). s.",
                                  ("g", "a", 3)), [
            "1 s: told", "2 w(a, 1): told", "3 w(a, 2): told", "4 g(a, 3): of 0 from 2, not z(1), 1; 3, not z(2), 1"])

    def test_a_has_twice(self):
        self.assertEqual(drawn_in("p if q, q. q.", ("p",)), ["1 q: told", "2 p: by 0 from 1, 1"])

    def test_places_from_1_on(self):
        rows = drawn_in("n(Y) if n(X), less(X, 12), plus(X, 1, Y). n(0).", ("n", 12))
        self.assertEqual(len(rows), 13)
        self.assertEqual(rows[0], "1 n(0): told")
        self.assertEqual(rows[9:11], ["10 n(9): by 0 from 9, less(8, 12), plus(8, 1, 9)",
                                      "11 n(10): by 0 from 10, less(9, 12), plus(9, 1, 10)"])

    def test_a_new_list_and_the_row_stays(self):
        row = [(("p",), TOLD)]
        first = drawn(row)
        self.assertIs(type(first), list)
        first.clear()
        self.assertEqual(drawn(row), ["1 p: told"])
        self.assertEqual(row, [(("p",), TOLD)])


if __name__ == "__main__":
    unittest.main()
