import unittest

from helper import odd_things, refusal_of
from whyfacts.errors import BadFact, BadRule, BadWidth, Unbound
from whyfacts.forms import is_fact, is_part, is_pattern, need_body, need_fact, widths_of, words_in

FACTS = [("rain",), ("road", "a", "b"), ("load", "c", -5), ("n", 0), ("w", 1, 2, 3, 4), ("w", "a", "b", "c", "d"),
         ("x", 999999999, -999999999), ("abcdefgh", "hgfedcba"), ("rule", "rule"), ("a", "a", "a")]
OPEN_PATTERNS = [("road", "X", "b"), ("road", "a", "Y"), ("p", "X", "X"), ("q", 1, "b", "Cc", "Dddddddd"), ("r", "Has")]
NO_PATTERNS = [
    (), ("",), ("has",), ("why", 1), ("A",), ("Road", "a"), (1,), (1, "a"), ("abcdefghi",), ("road ", "a"),
    ("w", 1, 2, 3, 4, 5), ("w", "A", "B", "C", "D", "E"), ("w",) + (0,) * 40,
    ("p", ""), ("p", "not"), ("p", "X", "is"), ("p", "XY"), ("p", "a b"), ("p", 1000000000), ("p", -1000000000),
    ("p", True), ("p", False), ("p", None), ("p", 1.0), ("p", ["a"]), ("p", ("a",)), ("p", {}),
    ("p", "a", "b", "c", ()),
    ["road", "a", "b"], ["rain"], [], "rain", "road", "", 5, {"road": "a"}, (("road", "a"),), (["road"],), (None,),
]


class Patterns(unittest.TestCase):
    def test_facts_are_facts_and_patterns(self):
        for fact in FACTS:
            with self.subTest(fact):
                self.assertIs(is_fact(fact), True)
                self.assertIs(is_pattern(fact), True)
                self.assertIs(need_fact(fact), fact)

    def test_patterns_with_free_words_are_no_facts(self):
        for pattern in OPEN_PATTERNS:
            with self.subTest(pattern):
                self.assertIs(is_pattern(pattern), True)
                self.assertIs(is_fact(pattern), False)
                self.assertIs(refusal_of(need_fact, pattern), BadFact)

    def test_a_free_word_at_each_place(self):
        for width in range(1, 5):
            for place in range(width):
                terms = ["a"] * width
                terms[place] = "X"
                with self.subTest(terms):
                    self.assertIs(is_pattern(("p",) + tuple(terms)), True)
                    self.assertIs(is_fact(("p",) + tuple(terms)), False)

    def test_what_is_no_pattern(self):
        for thing in NO_PATTERNS:
            with self.subTest(thing):
                self.assertIs(is_pattern(thing), False)
                self.assertIs(is_fact(thing), False)
                self.assertIs(refusal_of(need_fact, thing), BadFact)

    def test_things_of_any_kind(self):
        for place, thing in enumerate(odd_things()):
            with self.subTest(place):
                for handed in (thing, (thing,), ("p", thing), ("p", "a", thing), [thing]):
                    self.assertIs(is_pattern(handed), False)
                    self.assertIs(is_fact(handed), False)
                    self.assertIs(refusal_of(need_fact, handed), BadFact)

    def test_a_refused_list_stays_as_it_was(self):
        handed = ["road", "a", ["b"]]
        refusal_of(need_fact, handed)
        self.assertEqual(handed, ["road", "a", ["b"]])


PARTS = [
    ("has", ("rain",)), ("has", ("road", "X", "b")), ("not", ("rain",)), ("not", ("shut", "X", 1, "a", "Y")),
    ("less", "X", 3), ("less", 1, 2), ("less", "a", "b"), ("same", "X", "Y"), ("same", "a", "a"), ("same", 5, "X"),
    ("plus", "X", 1, "Y"), ("plus", 1, 2, 3), ("plus", "X", "X", "X"), ("plus", "a", "b", "c"),
]
NO_PARTS = [
    (), ("has",), ("not",), ("less",), ("same",), ("plus",),
    ("has", ("rain",), ("rain",)), ("not", ("rain",), "X"), ("has", ("rain",), ()), ("has", "rain"), ("has", "X"),
    ("has", ["rain"]), ("not", ["rain"]), ("has", ("X", "a")), ("not", ("not",)), ("has", ()), ("has", None),
    ("has", ("w", 1, 2, 3, 4, 5)), ("not", ("w", 1, 2, 3, 4, 5)), ("has", "a", "b"), ("not", "a"), ("has", 1),
    ("less", "X"), ("less", "X", "Y", "Z"), ("same", "X"), ("same", "X", "Y", "Z"),
    ("plus", "X"), ("plus", "X", "Y"), ("plus", "X", "Y", "Z", "W"),
    ("less", ("rain",)), ("same", ("rain",)), ("less", ("rain",), 1), ("less", 1, ("rain",)), ("plus", 1, 2, ("rain",)),
    ("less", "XY", 1), ("less", 1, "XY"), ("same", True, 1), ("same", 1, False), ("same", "has", 1), ("less", 1, ""),
    ("plus", 1000000000, 1, 1), ("plus", 1, 1000000000, 1), ("plus", 1, 1, 1000000000), ("plus", 1, 1, None),
    ("more", 1, 2), ("Has", ("rain",)), ("", ("rain",)), ("have", ("rain",)), ("rule", ("rain",)), ("if", 1, 2),
    (None, ("rain",)), (1, 2, 3), (["has"], ("rain",)), ({}, ("rain",)), (("has",), ("rain",)),
    ["has", ("rain",)], ["less", 1, 2], "has", "less", ("rain",), ("road", "a", "b"),
]


class Parts(unittest.TestCase):
    def test_parts_of_each_kind(self):
        for part in PARTS:
            with self.subTest(part):
                self.assertIs(is_part(part), True)

    def test_what_is_no_part(self):
        for thing in NO_PARTS:
            with self.subTest(thing):
                self.assertIs(is_part(thing), False)

    def test_things_of_any_kind(self):
        for place, thing in enumerate(odd_things()):
            with self.subTest(place):
                for handed in (thing, (thing,), ("has", thing), ("not", thing), ("less", 1, thing), ("same", thing, 1),
                               ("plus", 1, thing, 2), (thing, ("rain",)), (thing, 1, 2), [thing]):
                    self.assertIs(is_part(handed), False)


RAIN = ("has", ("rain",))
ROAD = ("has", ("road", "X", "Y"))
BOUND_BODIES = [
    (RAIN,), (RAIN,) * 6, (ROAD,), (ROAD, ROAD, ROAD, ROAD, ROAD, ROAD),
    (("not", ("rain",)),), (("less", 1, 2),), (("same", "a", "b"),), (("plus", 1, 2, 3),),
    (ROAD, ("not", ("shut", "X", "Y"))), (ROAD, ("less", "X", "Y")), (ROAD, ("same", "Y", "X")),
    (ROAD, ("plus", "X", "Y", "Z"), ("less", "Z", 5)), (("plus", 1, 2, "Z"), ("not", ("n", "Z"))),
    (("plus", 1, 2, "Z"), ("plus", "Z", "Z", "Z")), (ROAD, ("plus", "X", 1, "X")),
    (("plus", 1, 1, "A"), ("plus", "A", 1, "B"), ("plus", "B", "A", "C"), ("same", "C", "A")),
    (ROAD, ("has", ("road", "Y", "Z")), ("not", ("way", "X", "Z", "Y", 5))),
    (("has", ("p", "X", "X")), ("same", "X", "X")),
]
UNBOUND_BODIES = [
    (("not", ("shut", "X")),), (("not", ("shut", "X")), ("has", ("road", "X"))), (ROAD, ("not", ("shut", "X", "Z"))),
    (("less", "X", 1),), (("less", 1, "X"),), (("less", "X", "Y"), ROAD), (ROAD, ("less", "Z", "X")),
    (ROAD, ("less", "X", "Z")), (("same", "X", "X"),), (("same", "X", 1),), (("same", 1, "X"),),
    (ROAD, ("same", "X", "Z")),
    (ROAD, ("same", "Z", "X")), (("same", "X", "Y"), ROAD), (("plus", "X", 1, "Y"),), (("plus", 1, "X", "Y"),),
    (("plus", "X", 1, "X"),), (("plus", 1, "X", "X"),), (ROAD, ("plus", "Z", "X", "Y")),
    (ROAD, ("plus", "X", "Z", "Y")),
    (("plus", "X", "Y", "Z"), ROAD), (ROAD, ("less", "Z", 1), ("plus", "X", "Y", "Z")),
    (ROAD, ROAD, ROAD, ROAD, ROAD, ("not", ("shut", "Z"))), (("not", ("p", "X")), ("not", ("p", "X"))),
    (ROAD, ("same", "Z", 1), ("less", "Z", 2)),
]
NO_BODIES = [
    (), (RAIN,) * 7, (ROAD,) * 7, [RAIN], [], (RAIN, ["has", ("rain",)]), (RAIN, None), (RAIN, ("rain",)), RAIN, ROAD,
    (("has", ["rain"]),), (RAIN, ("more", 1, 2)), ("has",), "has", (("less", 1),), (RAIN,) * 5 + (("less", 1, True),),
    {RAIN: 1}, ((RAIN,),), (RAIN, ()), (RAIN, RAIN, "rain"),
]


class Bodies(unittest.TestCase):
    def test_bound_bodies_are_told_as_they_are(self):
        for body in BOUND_BODIES:
            with self.subTest(body):
                self.assertIs(need_body(body), body)

    def test_lengths(self):
        for length in range(10):
            with self.subTest(length):
                self.assertIs(refusal_of(need_body, (RAIN,) * length), None if 1 <= length <= 6 else BadRule)

    def test_unbound_bodies(self):
        for body in UNBOUND_BODIES:
            with self.subTest(body):
                self.assertIs(refusal_of(need_body, body), Unbound)

    def test_what_is_no_body(self):
        for thing in NO_BODIES:
            with self.subTest(thing):
                self.assertIs(refusal_of(need_body, thing), BadRule)

    def test_a_bad_part_is_refused_ahead_of_an_unbound_word(self):
        self.assertIs(refusal_of(need_body, (("less", "X", 1), ("more", 1, 2))), BadRule)
        self.assertIs(refusal_of(need_body, (("less", "X", 1),) * 7), BadRule)

    def test_one_name_of_two_widths_is_no_matter_of_a_body(self):
        body = (("has", ("road", "X")), ROAD)
        self.assertIs(need_body(body), body)

    def test_things_of_any_kind(self):
        for place, thing in enumerate(odd_things()):
            with self.subTest(place):
                for handed in (thing, (thing,), (RAIN, thing), (thing, RAIN), (("has", thing),), [thing]):
                    self.assertIs(refusal_of(need_body, handed), BadRule)


class WordsIn(unittest.TestCase):
    def test_each_once_as_they_come(self):
        self.assertEqual(words_in((RAIN,)), [])
        self.assertEqual(words_in((ROAD,)), ["X", "Y"])
        self.assertEqual(words_in((("has", ("p", "Z", "a", "Z", "B")), ("has", ("q", "A", "Z", "Y")))),
                         ["Z", "B", "A", "Y"])
        self.assertEqual(words_in((ROAD, ("plus", "Y", "X", "Sum"), ("not", ("shut", "Sum", 1)))), ["X", "Y", "Sum"])
        self.assertEqual(words_in((("plus", 1, 2, "B"), ("plus", "B", 1, "A"), ("less", "A", "B"))), ["B", "A"])

    def test_of_each_kind_of_part(self):
        self.assertEqual(words_in((("has", ("p", "A", 1, "b", "C")),)), ["A", "C"])
        self.assertEqual(words_in((("not", ("p", "A", 1, "b", "C")),)), ["A", "C"])
        self.assertEqual(words_in((("less", "B", "A"),)), ["B", "A"])
        self.assertEqual(words_in((("same", "B", "A"),)), ["B", "A"])
        self.assertEqual(words_in((("plus", "C", "B", "A"),)), ["C", "B", "A"])
        self.assertEqual(words_in((("less", "a", 1), ("same", 1, "b"), ("plus", "a", "b", 1))), [])

    def test_a_new_list_each_time(self):
        body = (ROAD,)
        first = words_in(body)
        first.append("Z")
        self.assertIs(type(first), list)
        self.assertEqual(words_in(body), ["X", "Y"])

    def test_bodies_beyond_the_bound(self):
        self.assertEqual(words_in((ROAD,) * 7 + (("has", ("p", "Z")),)), ["X", "Y", "Z"])
        self.assertEqual(words_in(()), [])


class WidthsOf(unittest.TestCase):
    def test_heads_and_patterns_of_both_kinds_of_rule(self):
        rules = [
            ("rule", ("way", "X", "Y"), (ROAD, ("not", ("shut", "X")), ("less", 1, 2))),
            ("rule", ("wet",), (RAIN,)),
            ("gather", ("load", "X", "T", 1), "sum", "T", "W", ("X",), (("has", ("edge", "X", "Y", "W", "V")),)),
        ]
        self.assertEqual(widths_of(rules), {"way": 2, "road": 2, "shut": 1, "wet": 0, "rain": 0, "load": 3, "edge": 4})

    def test_no_rules(self):
        self.assertEqual(widths_of([]), {})

    def test_values_and_words_of_parts_are_no_names_in_rules(self):
        rules = [
            ("rule", ("p", "road", "p"), (("has", ("q", "rain", "road")), ("same", "wet", "q"), ("less", "road", "p"))),
            ("rule", ("road", "X"), (("has", ("p", "X", "q")), ("not", ("rain",)), ("plus", "p", "q", "rain"))),
        ]
        self.assertEqual(widths_of(rules), {"p": 2, "q": 2, "road": 1, "rain": 0})

    def test_two_widths_of_one_name(self):
        gather = ("gather", ("many", "N"), "count", "N", "", (), (ROAD,))
        pairs = [
            [("rule", ("p", "X"), (("has", ("p", "X", "X")),))],
            [("rule", ("p", 1), (("not", ("p",)),))],
            [("rule", ("p",), (("has", ("q", 1)), ("not", ("q", 1, 2))))],
            [("rule", ("p", 1), (RAIN,)), ("rule", ("p",), (RAIN,))],
            [("rule", ("p",), (RAIN,)), ("rule", ("q",), (("has", ("rain", "X")),))],
            [("rule", ("p",), (RAIN,)), ("rule", ("q",), (RAIN, RAIN, RAIN, RAIN, RAIN, ("not", ("p", 1))))],
            [gather, ("rule", ("many",), (RAIN,))],
            [gather, ("rule", ("p", "X"), (("has", ("road", "X")),))],
            [("rule", ("road", 1), (RAIN,)), gather],
            [("gather", ("road", "N"), "count", "N", "", (), (ROAD,))],
        ]
        for rules in pairs:
            with self.subTest(rules):
                self.assertIs(refusal_of(widths_of, rules), BadWidth)

    def test_a_new_dict_each_time(self):
        rules = [("rule", ("wet",), (RAIN,))]
        first = widths_of(rules)
        first["wet"] = 3
        first["more"] = 1
        self.assertIs(type(first), dict)
        self.assertEqual(widths_of(rules), {"wet": 0, "rain": 0})
        self.assertEqual(rules, [("rule", ("wet",), (RAIN,))])

    def test_more_rules_than_a_list_may_have(self):
        self.assertEqual(widths_of([("rule", ("wet",), (RAIN,))] * 25), {"wet": 0, "rain": 0})


if __name__ == "__main__":
    unittest.main()
