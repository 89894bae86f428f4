import unittest

from whyfacts.reading import read_body, read_fact, read_program
from whyfacts.writing import shown_fact, shown_part, shown_program, shown_rule

ROAD = ("has", ("road", "X", "Y"))
WIDE = ("has", ("road", "X", "Y", "W"))
WET = ("rule", ("wet",), (("has", ("rain",)),))

FACTS = [
    (("rain",), "rain"), (("road", "a", "b"), "road(a, b)"), (("load", "c", -5), "load(c, -5)"), (("n", 0), "n(0)"),
    (("w", 1, "b", -3, "abcdefgh"), "w(1, b, -3, abcdefgh)"), (("n", 999999999, -999999999),
                                                               "n(999999999, -999999999)"),
    (("rule", "rule"), "rule(rule)"),
]
PARTS = [
    (("has", ("rain",)), "rain"), (ROAD, "road(X, Y)"), (("not", ("rain",)), "not rain"),
    (("not", ("shut", "c", -5)), "not shut(c, -5)"),
    (("less", "X", 3), "less(X, 3)"), (("same", "X", "Y"), "same(X, Y)"), (("plus", "X", 1, "Y"), "plus(X, 1, Y)"),
    (("less", 1, 3), "less(1, 3)"), (("plus", -1, -2, -3), "plus(-1, -2, -3)"), (("same", "a", 0), "same(a, 0)"),
]
RULES = [
    (("rule", ("way", "X", "Z"), (("has", ("way", "X", "Y")), ("has", ("road", "Y", "Z")))),
     "way(X, Z) if way(X, Y), road(Y, Z)."),
    (WET, "wet if rain."),
    (("rule", ("dry",), (("not", ("rain",)),)), "dry if not rain."),
    (("rule", ("p", "X", 1), (ROAD, ("not", ("shut", "X")), ("not", ("rain",)), ("less", "X", 3),
                              ("plus", "X", 1, "Y"))),
     "p(X, 1) if road(X, Y), not shut(X), not rain, less(X, 3), plus(X, 1, Y)."),
    (("rule", ("p",), (("same", "a", -1), ("not", ("q",)))), "p if same(a, -1), not q."),
    (("gather", ("load", "X", "T"), "sum", "T", "W", ("X",), (WIDE,)), "load(X, T) if T is sum W by X: road(X, Y, W)."),
    (("gather", ("many", "N"), "count", "N", "", (), (ROAD,)), "many(N) if N is count: road(X, Y)."),
    (("gather", ("g", "N"), "count", "N", "", ("X",), (ROAD,)), "g(N) if N is count by X: road(X, Y)."),
    (("gather", ("g", "N"), "count", "N", "", ("X", "Y"), (ROAD,)), "g(N) if N is count by X, Y: road(X, Y)."),
    (("gather", ("g", "N"), "least", "N", "W", (), (WIDE,)), "g(N) if N is least W: road(X, Y, W)."),
    (("gather", ("g", "N"), "most", "N", "W", ("Y", "X", "W"), (WIDE, ("not", ("q",)))),
     "g(N) if N is most W by Y, X, W: road(X, Y, W), not q."),
    (("gather", ("g",), "sum", "N", "W", (), (("not", ("q",)), WIDE)), "g if N is sum W: not q, road(X, Y, W)."),
]


class Shown(unittest.TestCase):
    def test_facts(self):
        for fact, text in FACTS:
            with self.subTest(text):
                self.assertEqual(shown_fact(fact), text)
                self.assertEqual(read_fact(text + "."), fact)

    def test_parts(self):
        for part, text in PARTS:
            with self.subTest(text):
                self.assertEqual(shown_part(part), text)
                self.assertEqual(read_body(text + "."), (part,))

    def test_rules(self):
        for rule, text in RULES:
            with self.subTest(text):
                self.assertEqual(shown_rule(rule), text)
                self.assertEqual(read_program(text), ([rule], []))

    def test_patterns(self):
        self.assertEqual(shown_fact(("road", "X", 5)), "road(X, 5)")

    def test_what_lies_beyond_the_bounds(self):
        self.assertEqual(shown_fact(("w", 1, 2, 3, 4, "Five")), "w(1, 2, 3, 4, Five)")
        self.assertEqual(shown_fact(("abcdefghi", 1000000000)), "abcdefghi(1000000000)")
        self.assertEqual(shown_rule(("rule", ("p",), (("has", ("q",)),) * 7)), "p if q, q, q, q, q, q, q.")


class Programs(unittest.TestCase):
    def test_rules_and_facts_together(self):
        rules = [RULES[0][0], RULES[5][0]]
        facts = [("road", "b", "a"), ("rain",), ("rain",)]
        text = ("way(X, Z) if way(X, Y), road(Y, Z).\nload(X, T) if T is sum W by X: road(X, Y, W).\n"
                "road(b, a).\nrain.\nrain.")
        self.assertEqual(shown_program(rules, facts), text)
        self.assertEqual(read_program(text), (rules, facts))

    def test_rules_alone(self):
        self.assertEqual(shown_program([WET], []), "wet if rain.")
        self.assertEqual(shown_program([WET, WET], []), "wet if rain.\nwet if rain.")

    def test_facts_alone(self):
        self.assertEqual(shown_program([], [("rain",)]), "rain.")
        self.assertEqual(shown_program([], [("b", 1), ("a",)]), "b(1).\na.")

    def test_none_of_both(self):
        self.assertEqual(shown_program([], []), "")
        self.assertEqual(read_program(shown_program([], [])), ([], []))

    def test_patterns_among_the_facts(self):
        self.assertEqual(shown_program([], [("road", "X", "b"), ("rain",), ("p", "Xy")]), "road(X, b).\nrain.\np(Xy).")

    def test_all_that_is_shown_is_read_to_the_same(self):
        rules = [rule for rule, text in RULES]
        facts = [fact for fact, text in FACTS]
        self.assertEqual(shown_program(rules, facts), "\n".join([text for rule, text in RULES] + [text + "." for fact,
                                                                                                  text in FACTS]))
        self.assertEqual(read_program(shown_program(rules, facts)), (rules, facts))

    def test_what_is_handed_in_stays(self):
        rules = [WET]
        facts = [("rain",)]
        shown_program(rules, facts)
        self.assertEqual((rules, facts), ([WET], [("rain",)]))


if __name__ == "__main__":
    unittest.main()
