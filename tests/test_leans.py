import copy
import unittest

from whyfacts.leans import leans_of
from whyfacts.reading import read_program


def leans_in(text):
    return leans_of(read_program(text)[0])


class Leans(unittest.TestCase):
    def test_of_a_has_and_a_not(self):
        self.assertEqual(leans_in("way(X, Y) if road(X, Y), not shut(X)."),
                         [("way", "road", False), ("way", "shut", True)])

    def test_of_a_gather(self):
        self.assertEqual(leans_in("load(T) if T is sum W: road(X, W), not shut(X), less(W, 5)."),
                         [("load", "road", True), ("load", "shut", True)])
        self.assertEqual(leans_in("many(N) if N is count: road."), [("many", "road", True)])

    def test_of_no_rules(self):
        self.assertEqual(leans_in(""), [])

    def test_tests_lean_on_nothing(self):
        self.assertEqual(leans_in("p if less(1, 2), same(q, r), plus(1, 2, s)."), [])
        self.assertEqual(leans_in("p(N) if N is count: same(a, a)."), [])

    def test_values_among_terms_are_no_names(self):
        self.assertEqual(leans_in("p(r, s) if q(p, t), not u(v, w)."), [("p", "q", False), ("p", "u", True)])

    def test_each_pair_once_rising_by_both(self):
        text = "c if b, a. a if c, b, a. c if a, d. b if z, y. a if b."
        self.assertEqual(leans_in(text), [
            ("a", "a", False), ("a", "b", False), ("a", "c", False), ("b", "y", False), ("b", "z", False),
            ("c", "a", False), ("c", "b", False), ("c", "d", False)])

    def test_rising_as_texts(self):
        self.assertEqual(leans_in("ab if b, ba, a. a if b. b if ab."), [
            ("a", "b", False), ("ab", "a", False), ("ab", "b", False), ("ab", "ba", False), ("b", "ab", False)])

    def test_strictly_where_one_of_several_parts_makes_it_so(self):
        strict = [("p", "q", True)]
        for text in ["p if q, not q.", "p if not q, q.", "p if q, q, not q, q."]:
            with self.subTest(text):
                self.assertEqual(leans_in(text), strict)

    def test_strictly_where_one_of_several_rules_makes_it_so(self):
        for text in ["p if q. p if not q.", "p if not q. p if q.", "p if q. p if N is count: q. p if q.",
                     "p if N is count: q. p if q."]:
            with self.subTest(text):
                self.assertEqual(leans_in(text), [("p", "q", True)])

    def test_strictness_is_the_pairs_own(self):
        self.assertEqual(leans_in("p if not q. r if q. p if r."), [("p", "q", True), ("p", "r", False),
                                                                   ("r", "q", False)])

    def test_on_itself(self):
        self.assertEqual(leans_in("p if p."), [("p", "p", False)])
        self.assertEqual(leans_in("p if not p."), [("p", "p", True)])
        self.assertEqual(leans_in("p(N) if N is count: p(X)."), [("p", "p", True)])

    def test_kinds(self):
        told = leans_in("p if q, not r.")
        self.assertIs(type(told), list)
        self.assertTrue(all(type(lean) is tuple and type(lean[2]) is bool for lean in told))

    def test_rules_stay_and_the_list_may_be_changed(self):
        rules = read_program("p if q, not r. p(N) if N is count: s(X).")[0]
        ahead = copy.deepcopy(rules)
        first = leans_of(rules)
        first.clear()
        self.assertEqual(rules, ahead)
        self.assertEqual(leans_of(rules), [("p", "q", False), ("p", "r", True), ("p", "s", True)])

    def test_more_rules_than_a_list_may_have(self):
        self.assertEqual(leans_in("p if q. " * 30), [("p", "q", False)])


if __name__ == "__main__":
    unittest.main()
