import unittest

from helper import odd_things, refusal_of
from whyfacts.errors import BadRule, BadWidth, Ringed, TooMany, Unbound
from whyfacts.program import need_program
from whyfacts.reading import read_program

WET = ("rule", ("wet",), (("has", ("rain",)),))
RING = ("rule", ("p",), (("not", ("p",)),))
BAD = ("rule", ("wet",), ())
UNBOUND = ("rule", ("wet", "X"), (("has", ("rain",)),))
WIDE = ("rule", ("wet", 1), (("has", ("rain",)),))


class Programs(unittest.TestCase):
    def check(self, rules, refusal):
        with self.subTest(rules):
            self.assertIs(refusal_of(need_program, rules), refusal)

    def test_a_new_list_of_the_same_rules(self):
        rules = read_program("way(X, Y) if road(X, Y), not shut(X). many(N) if N is count: way(X, Y). wet if wet.")[0]
        ahead = list(rules)
        told = need_program(rules)
        self.assertEqual(told, ahead)
        self.assertIs(type(told), list)
        self.assertIsNot(told, rules)
        rules.clear()
        self.assertEqual(told, ahead)
        again = need_program(told)
        again.clear()
        self.assertEqual(told, ahead)
        self.assertEqual(need_program([]), [])

    def test_what_is_no_list_of_rules(self):
        for rules in [None, (), (WET,), {}, "p if q.", 5, [None], [WET, BAD], [BAD], [WET, "wet if rain."],
                      [RING, BAD]]:
            self.check(rules, BadRule)
        for place, thing in enumerate(odd_things()):
            with self.subTest(place):
                self.assertIs(refusal_of(need_program, thing), BadRule)
                self.assertIs(refusal_of(need_program, [thing]), BadRule)
                self.assertIs(refusal_of(need_program, [RING, thing]), BadRule)

    def test_the_order_of_refusals_also_where_there_is_a_ring(self):
        self.check((RING,) * 21, BadRule)
        self.check([RING] * 21, TooMany)
        self.check([RING] * 20 + [BAD], TooMany)
        self.check([RING, BAD, UNBOUND], BadRule)
        self.check([RING, UNBOUND, BAD], Unbound)
        self.check([RING, WET, WIDE, UNBOUND], Unbound)
        self.check([RING, WET, WIDE], BadWidth)
        self.check([("rule", ("p",), (("not", ("p", 1)),))], BadWidth)
        self.check([RING, WET], Ringed)
        self.check([RING] * 20, Ringed)

    def test_rings(self):
        for text in ["p if not p.", "p if not q. q if p.", "p if N is count: q. q if r. r if p."]:
            self.check(read_program(text)[0], Ringed)
        for text in ["p if p.", "p if q. q if p.", "p if not q. q if q.", "p if N is count: q. r if p, not q."]:
            self.check(read_program(text)[0], None)

    def test_rules_stay_also_where_they_are_refused(self):
        for rules in [[WET], [RING], [WET, BAD], [WET, WIDE]]:
            ahead = list(rules)
            refusal_of(need_program, rules)
            self.assertEqual(rules, ahead)


if __name__ == "__main__":
    unittest.main()
