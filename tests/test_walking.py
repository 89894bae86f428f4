import copy
import unittest

from helper import TOLD, by, has, held_by_name, held_in, numbers, of, refusal_of, rules_in, some_worked
from whyfacts.errors import TooMany
from whyfacts.walking import stands
from whyfacts.whys import rests_on, why_of

RULES = rules_in("""
    way(X, Y) if road(X, Y), not shut(X).
    way(X, Z) if way(X, Y), road(Y, Z).
    many(N) if N is count: road(X, Y).
    out(X, N) if N is count by X: road(X, Y), not shut(Y).
    more(Y) if n(X), less(X, 5), plus(X, 1, Y), same(Y, Y).
    loop(X) if road(X, X).
    two(X, N) if N is sum W by X, Y: load(X, Y, W).
    any if not none.
""")
AB, BC = ("road", "a", "b"), ("road", "b", "c")
WAB = (("way", "a", "b"), by(0, has(*AB), ("not", ("shut", "a"))))
WAC = (("way", "a", "c"), by(1, has("way", "a", "b"), has(*BC)))
TOLD_FACTS = [AB, BC, ("n", 1), ("n", 2), ("n", 7), ("load", "a", "b", 5), ("load", "a", "b", 3), ("load", "a", "c", 1)]
HELD = held_by_name(TOLD_FACTS + [("way", "a", "b"), ("way", "a", "c"), ("way", "b", "c")])
LEAVES = [(fact, TOLD) for fact in TOLD_FACTS]


class StandsTest(unittest.TestCase):
    def check(self, row, answer, rules=None, told=None, held=None):
        rules = RULES if rules is None else rules
        told = TOLD_FACTS if told is None else told
        held = HELD if held is None else held
        ahead = copy.deepcopy((row, rules, told, held))
        with self.subTest(row):
            self.assertIs(stands(row, rules, told, held), answer)
            self.assertEqual((row, rules, told, held), ahead)

    def last(self, fact, reason, answer, **more):
        """A row of all told facts and one pair behind them."""
        self.check(LEAVES + [(fact, reason)], answer, **more)


class Rows(StandsTest):
    def test_whole_rows(self):
        self.check([(AB, TOLD)], True)
        self.check([(AB, TOLD), WAB], True)
        self.check([(AB, TOLD), (BC, TOLD), WAB, WAC], True)
        self.check([(BC, TOLD), (AB, TOLD), WAB, (("n", 2), TOLD), WAC], True)

    def test_an_empty_row(self):
        self.check([], False)

    def test_a_fact_twice(self):
        self.check([(AB, TOLD), (AB, TOLD)], False)
        self.check([(AB, TOLD), WAB, WAB], False)
        self.check([(AB, TOLD), (BC, TOLD), WAB, (AB, TOLD), WAC], False)

    def test_a_told_fact_that_is_not_told(self):
        self.check([(("road", "a", "c"), TOLD)], False)
        self.check([(("way", "a", "b"), TOLD)], False)
        self.check([(AB, TOLD)], False, told=[])
        self.check([(AB, TOLD), (BC, TOLD)], False, told=[AB])
        self.check([(AB, TOLD)], True, held={})

    def test_one_bad_pair_among_good_ones(self):
        self.check([(AB, TOLD), (("rain",), TOLD), WAB], False)
        self.check([(AB, TOLD), WAB, (("rain",), TOLD)], False)


class By(StandsTest):
    def test_facts_that_are_held_nowhere_may_be_grounds(self):
        self.check([(AB, TOLD), WAB], True, held={})

    def test_the_head_by_other_grounds(self):
        self.last(("way", "a", "b"), by(0, has(*BC), ("not", ("shut", "b"))), False)
        self.last(("way", "b", "a"), by(0, has(*AB), ("not", ("shut", "a"))), False)
        self.last(("way", "a"), by(0, has(*AB), ("not", ("shut", "a"))), False)
        self.last(("road", "a", "x"), by(0, has(*AB), ("not", ("shut", "a"))), False)
        self.last(("many", "a", "b"), by(0, has(*AB), ("not", ("shut", "a"))), False)

    def test_grounds_of_unlike_values(self):
        self.last(("way", "a", "b"), by(0, has(*AB), ("not", ("shut", "b"))), False)
        self.check([(AB, TOLD), (BC, TOLD), WAB, (("way", "a", "c"), by(1, has("way", "a", "b"), has(*AB)))], False)
        self.last(("loop", "a"), by(5, has(*AB)), False)
        self.last(("loop", "b"), by(5, has(*AB)), False)

    def test_grounds_of_another_form(self):
        self.last(("way", "a", "b"), by(0, ("not", AB), ("not", ("shut", "a"))), False)
        self.last(("way", "a", "b"), by(0, has(*AB), has("shut", "a")), False)
        self.last(("way", "a", "b"), by(0, has("road", "a", "b", 1), ("not", ("shut", "a"))), False)
        self.last(("way", "a", "b"), by(0, has("rod", "a", "b"), ("not", ("shut", "a"))), False)
        self.last(("way", "a", "b"), by(0, has(*AB), ("not", ("shut", "a", "b"))), False)
        self.last(("way", "a", "b"), by(0, ("not", ("shut", "a")), has(*AB)), False)

    def test_a_not_in_the_place_of_a_has_and_the_other_way_round(self):
        self.check([(("way", "a", "b"), by(0, ("not", AB), ("not", ("shut", "a"))))], False, held={})
        told = [AB, ("shut", "a")]
        row = [(fact, TOLD) for fact in told] + [(("way", "a", "b"), by(0, has(*AB), has("shut", "a")))]
        self.check(row, False, told=told, held={})
        self.check(row[:2] + [WAB], True, told=told, held={})

    def test_grounds_too_many_or_too_few(self):
        self.last(("way", "a", "b"), by(0, has(*AB)), False)
        self.last(("way", "a", "b"), by(0), False)
        self.last(("way", "a", "b"), by(0, has(*AB), ("not", ("shut", "a")), ("not", ("shut", "a"))), False)
        self.last(("way", "a", "b"), by(0, has(*AB), ("not", ("shut", "a")), ("less", 1, 2)), False)

    def test_a_has_whose_fact_stands_behind_or_nowhere_though_it_is_held(self):
        self.check([WAB], False)
        self.check([WAB, (AB, TOLD)], False)
        self.check([(AB, TOLD), (BC, TOLD), WAC, WAB], False)
        self.check([(AB, TOLD), WAB, WAC], False)
        self.check([(("p",), by(0, has("p")))], False, rules=rules_in("p if p."), held=held_in("p."))

    def test_a_not_of_a_fact_that_is_held(self):
        self.last(*WAB, False, held={**HELD, "shut": [("shut", "a")]})
        self.last(*WAB, True, held={**HELD, "shut": [("shut", "b"), ("shut",), ("shut", "a", "a")]})
        self.check([(("any",), by(7, ("not", ("none",))))], True)
        self.check([(("any",), by(7, ("not", ("none",))))], False, held=held_in("none."))
        self.check([(("none",), TOLD), (("any",), by(7, ("not", ("none",))))], True, told=[("none",)])

    def more(self, fact, grounds, answer):
        self.last(fact, by(4, *grounds), answer)

    def test_tests(self):
        self.more(("more", 2), [has("n", 1), ("less", 1, 5), ("plus", 1, 1, 2), ("same", 2, 2)], True)
        self.more(("more", 3), [has("n", 1), ("less", 1, 5), ("plus", 1, 1, 3), ("same", 3, 3)], False)
        self.more(("more", 8), [has("n", 7), ("less", 7, 5), ("plus", 7, 1, 8), ("same", 8, 8)], False)
        self.more(("more", 2), [has("n", 1), ("less", 1, 6), ("plus", 1, 1, 2), ("same", 2, 2)], False)
        self.more(("more", 2), [has("n", 1), ("less", 2, 5), ("plus", 1, 1, 2), ("same", 2, 2)], False)
        self.more(("more", 2), [has("n", 1), ("less", 1, 5), ("plus", 1, 1, 2), ("same", 2, 3)], False)
        self.more(("more", 3), [has("n", 1), ("less", 1, 5), ("plus", 1, 2, 3), ("same", 3, 3)], False)
        self.more(("more", 2), [has("n", 1), ("less", 1, 5), ("plus", 1, 1, 2), ("less", 2, 2)], False)
        self.more(("more", 3), [has("n", 1), ("less", 1, 5), ("plus", 1, 1, 2), ("same", 2, 2)], False)

    def test_tests_of_names_and_beyond_the_bounds(self):
        rules = rules_in("p(X) if less(X, 5). p(Y) if plus(999999999, 1, Y). p(X) if same(X, a). p(X) if same(a, b), q(X).")
        self.check([(("p", "a"), by(0, ("less", "a", 5)))], False, rules=rules)
        self.check([(("p", 4), by(0, ("less", 4, 5)))], True, rules=rules)
        self.check([(("p", 5), by(0, ("less", 5, 5)))], False, rules=rules)
        self.check([(("p", 1000000000), by(1, ("plus", 999999999, 1, 1000000000)))], False, rules=rules)
        self.check([(("p", "a"), by(2, ("same", "a", "a")))], True, rules=rules)
        self.check([(("q", 1), TOLD), (("p", 1), by(3, ("same", "a", "b"), has("q", 1)))], False, rules=rules,
                   told=[("q", 1)])

    def test_numbers_of_rules(self):
        grounds = (has(*AB), ("not", ("shut", "a")))
        for number in [1, 2, 3, 5, 7, 8, 9, 100, -1, -8, -9]:
            self.last(("way", "a", "b"), ("by", number, grounds), False)
        self.check([(("p",), by(-1, ("not", ("q",))))], False, rules=rules_in("p if not q."))
        self.check([(("p",), by(0, ("not", ("q",))))], True, rules=rules_in("p if not q."))
        self.check([(("p",), by(0, ("not", ("q",))))], False, rules=[])
        self.check([(("p",), by(0, ("not", ("q",))))], False, rules=rules_in("p if N is count: not q."))

    def test_too_many_fills_of_a_plain_rule_are_no_matter(self):
        held = {**numbers("n", 2001)}
        self.check([(("n", 5), TOLD), (("p",), by(0, has("n", 5)))], True, rules=rules_in("p if n(X)."),
                   told=[("n", 5)], held=held)


class Of(StandsTest):
    MANY = ("of", 2, (), ((has(*AB),), (has(*BC),)))
    TWO = ("of", 6, ("a", "b"), ((has("load", "a", "b", 5),), (has("load", "a", "b", 3),)))

    def test_groups(self):
        self.last(("many", 2), self.MANY, True)
        self.last(("two", "a", 8), self.TWO, True)
        self.last(("two", "a", 1), of(6, ("a", "c"), (has("load", "a", "c", 1),)), True)
        self.last(("out", "a", 1), of(3, ("a",), (has(*AB), ("not", ("shut", "b")))), True)

    def test_grounds_in_another_order(self):
        self.last(("many", 2), of(2, (), (has(*BC),), (has(*AB),)), True)
        self.last(("two", "a", 8), of(6, ("a", "b"), (has("load", "a", "b", 3),), (has("load", "a", "b", 5),)), True)

    def test_one_left_out_or_twice_or_too_many(self):
        self.last(("many", 2), of(2, (), (has(*AB),)), False)
        self.last(("many", 1), of(2, (), (has(*AB),)), False)
        self.last(("many", 2), of(2, (), (has(*AB),), (has(*AB),)), False)
        self.last(("many", 2), of(2, (), (has(*AB),), (has(*BC),), (has(*AB),)), False)
        self.last(("many", 3), of(2, (), (has(*AB),), (has(*BC),), (has(*AB),)), False)
        self.last(("many", 2), of(2, (), (has(*AB),), (has(*BC),), (has("road", "c", "d"),)), False)
        self.last(("many", 0), of(2, ()), False)
        self.last(("many", 2), of(2, ()), False)

    def test_other_grounds(self):
        self.last(("many", 2), of(2, (), (has(*AB),), (has("n", 1),)), False)
        self.last(("many", 2), of(2, (), (has(*AB), has(*BC))), False)
        self.last(("many", 2), of(2, (), (("not", AB),), (has(*BC),)), False)
        self.last(("out", "a", 1), of(3, ("a",), (has(*AB),)), False)
        self.last(("out", "a", 1), of(3, ("a",), (("not", ("shut", "b")), has(*AB))), False)

    def test_another_key(self):
        grounds = ((has("load", "a", "b", 5),), (has("load", "a", "b", 3),))
        for key_values in [("a", "c"), ("b", "a"), ("a", "z"), ("b", "b"), ("a", 5)]:
            self.last(("two", "a", 8), ("of", 6, key_values, grounds), False)
        self.last(("two", "b", 8), ("of", 6, ("b", "b"), grounds), False)

    def test_another_number_of_key_values(self):
        grounds = ((has("load", "a", "b", 5),), (has("load", "a", "b", 3),))
        for key_values in [(), ("a",), ("a", "b", "b"), ("a", "b", 5)]:
            self.last(("two", "a", 8), ("of", 6, key_values, grounds), False)
        self.last(("many", 2), of(2, ("a",), (has(*AB),), (has(*BC),)), False)

    def test_another_fact_than_the_groups(self):
        for fact in [("many", 1), ("many", 3), ("many", "a"), ("many",), ("many", 2, 2), ("much", 2)]:
            self.last(fact, self.MANY, False)
        for fact in [("two", "a", 5), ("two", "b", 8), ("two", "a", 9), ("two", 8)]:
            self.last(fact, self.TWO, False)

    def test_a_group_that_tells_nothing(self):
        rules = rules_in("g(N) if N is sum W: w(W).")
        told = [("w", 1), ("w", "x")]
        row = [(fact, TOLD) for fact in told] + [(("g", 1), of(0, (), (has("w", 1),), (has("w", "x"),)))]
        self.check(row, False, rules=rules, told=told, held=held_by_name(told))
        told = [("w", 999999999), ("w", 1)]
        row = [(fact, TOLD) for fact in told] + [(("g", 1000000000), of(0, (), (has("w", 999999999),), (has("w", 1),)))]
        self.check(row, False, rules=rules, told=told, held=held_by_name(told))

    def test_a_has_whose_fact_is_not_ahead(self):
        self.check([(AB, TOLD), (("many", 2), self.MANY)], False)
        self.check([(AB, TOLD), (("many", 2), self.MANY), (BC, TOLD)], False)
        self.check([(("many", 2), self.MANY)], False)
        self.check([(BC, TOLD), (AB, TOLD), (("many", 2), self.MANY)], True)

    def test_the_group_is_one_over_what_holds(self):
        self.last(("many", 2), self.MANY, False, held={})
        self.last(("many", 2), self.MANY, False, held={**HELD, "road": [AB]})
        self.last(("many", 2), self.MANY, False, held={**HELD, "road": [AB, BC, ("road", "c", "d")]})
        self.last(("many", 2), self.MANY, True, held={**HELD, "road": [BC, AB]})
        self.last(("out", "a", 1), of(3, ("a",), (has(*AB), ("not", ("shut", "b")))), False,
                  held={**HELD, "shut": [("shut", "b")]})

    def test_a_body_of_a_not_or_of_tests(self):
        rules = rules_in("g(N) if N is count: not q. h(N) if N is sum W: plus(1, 2, W).")
        self.check([(("g", 1), of(0, (), (("not", ("q",)),)))], True, rules=rules)
        self.check([(("g", 1), of(0, (), (("not", ("q",)),)))], False, rules=rules, held=held_in("q."))
        self.check([(("h", 3), of(1, (), (("plus", 1, 2, 3),)))], True, rules=rules)
        self.check([(("h", 4), of(1, (), (("plus", 1, 3, 4),)))], False, rules=rules)

    def test_numbers_of_rules(self):
        for number in [0, 1, 3, 4, 6, 7, 8, 100, -1, -6]:
            self.last(("many", 2), ("of", number, (), self.MANY[3]), False)
        self.check([(("g", 1), of(-1, (), (("not", ("q",)),)))], False, rules=rules_in("g(N) if N is count: not q."))
        self.check([(("g", 1), of(0, (), (("not", ("q",)),)))], False, rules=[])


class TooManyFills(unittest.TestCase):
    RULES = rules_in("g(N) if N is count: n(X). p if n(X). h(N) if N is count: m(X).")
    HELD = {**numbers("n", 2001), **numbers("m", 1)}
    ONE = (("n", 1), TOLD)

    def check(self, row, refusal):
        with self.subTest(row):
            self.assertIs(refusal_of(stands, row, self.RULES, [("n", 1), ("m", 0)], self.HELD), refusal)

    def test_whatever_its_key_values_and_grounds_are(self):
        for reason in [of(0, (), (has("n", 1),)), of(0, ()), of(0, ("a", 1)), of(0, ("a",), (has("n", 1),)),
                       of(0, (), (("less", 2, 1),))]:
            self.check([self.ONE, (("g", 1), reason)], TooMany)
            self.check([(("g", 1), reason)], TooMany)
            self.check([(("other",), reason)], TooMany)

    def test_not_of_a_plain_rule_or_another_gather(self):
        self.check([self.ONE, (("p",), by(1, has("n", 1)))], None)
        self.check([(("m", 0), TOLD), (("h", 1), of(2, (), (has("m", 0),)))], None)
        self.check([self.ONE, (("p",), of(1, (), (has("n", 1),)))], None)
        self.check([self.ONE, (("p",), by(0, has("n", 1)))], None)

    def test_pair_by_pair(self):
        bad = (("g", 1), of(0, ()))
        self.check([(("x",), TOLD), bad], None)
        self.check([bad, (("x",), TOLD)], TooMany)
        self.check([self.ONE, self.ONE, bad], None)
        self.check([(("m", 0), TOLD), (("m", 0), of(0, ()))], None)
        self.check([(("p",), by(1, has("n", 1))), bad], None)


class Whole(unittest.TestCase):
    def test_rows_of_many_programs(self):
        seen = 0
        for turn, rules, told, store in some_worked(23, 150):
            held = store.held()
            for fact in store.facts():
                row = why_of(store, fact)
                with self.subTest((turn, fact)):
                    self.assertIs(stands(row, rules, told, held), True)
                    for place in range(len(row) - 1):
                        self.assertIs(stands(row[:place] + row[place + 1:], rules, told, held), False)
                    lower = rests_on(row[-1][1])
                    self.assertIs(stands(row[-1:], rules, told, held), not lower)
                    seen += len(lower)
        self.assertGreater(seen, 100)


if __name__ == "__main__":
    unittest.main()
