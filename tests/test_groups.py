import copy
import random
import unittest

from helper import held_by_name, held_in, numbers, refusal_of, rules_in, slow_gather, some_facts, some_program
from whyfacts.errors import TooMany
from whyfacts.groups import gathered

MOST = 999999999


def gathered_in(text, held, number=0):
    return gathered(number, rules_in(text)[0], held)


def facts_of(pairs):
    return [fact for fact, reason in pairs]


class Kinds(unittest.TestCase):
    HELD = held_in("w(a, 5). w(b, -2). w(a, 3). w(c, 0). w(a, 3, x).")

    def check(self, text, facts, held=None):
        with self.subTest(text):
            self.assertEqual(facts_of(gathered_in(text, self.HELD if held is None else held)), facts)

    def test_each_kind_without_keys(self):
        self.check("g(N) if N is count: w(X, W).", [("g", 4)])
        self.check("g(N) if N is sum W: w(X, W).", [("g", 6)])
        self.check("g(N) if N is least W: w(X, W).", [("g", -2)])
        self.check("g(N) if N is most W: w(X, W).", [("g", 5)])

    def test_each_kind_by_a_key(self):
        self.check("g(X, N) if N is count by X: w(X, W).", [("g", "a", 2), ("g", "b", 1), ("g", "c", 1)])
        self.check("g(X, N) if N is sum W by X: w(X, W).", [("g", "a", 8), ("g", "b", -2), ("g", "c", 0)])
        self.check("g(X, N) if N is least W by X: w(X, W).", [("g", "a", 3), ("g", "b", -2), ("g", "c", 0)])
        self.check("g(X, N) if N is most W by X: w(X, W).", [("g", "a", 5), ("g", "b", -2), ("g", "c", 0)])

    def test_two_and_three_keys(self):
        held = held_in("p(a, 1, x). p(a, 1, y). p(b, 1, x). p(a, 2, x).")
        self.check("g(A, B, N) if N is count by A, B: p(A, B, C).",
                   [("g", "a", 1, 2), ("g", "b", 1, 1), ("g", "a", 2, 1)], held)
        self.check("g(A, B, N) if N is count by B, A: p(A, B, C).",
                   [("g", "a", 1, 2), ("g", "b", 1, 1), ("g", "a", 2, 1)], held)
        self.check("g(C, B, A, N) if N is count by A, B, C: p(A, B, C).",
                   [("g", "x", 1, "a", 1), ("g", "y", 1, "a", 1), ("g", "x", 1, "b", 1), ("g", "x", 2, "a", 1)], held)

    def test_a_sum_goes_fill_by_fill(self):
        self.check("g(N) if N is sum W: w(X, W), w(X, V).", [("g", 2 * 5 - 2 + 2 * 3 + 0)])
        self.check("g(N) if N is count: w(X, 3), w(Y, W).", [("g", 4)])

    def test_no_fills_make_no_group(self):
        for kind in ["count", "sum W", "least W", "most W"]:
            self.check(f"g(N) if N is {kind}: w(X, W), less(W, -9).", [])
            self.check(f"g(N) if N is {kind} by X: w(X, W), none.", [])
            self.check(f"g(N) if N is {kind}: w(X, W).", [], {})

    def test_a_body_without_free_words(self):
        self.check("g(N) if N is count: w(a, 5).", [("g", 1)])
        self.check("g(N) if N is count: not rain.", [("g", 1)])
        self.check("g(N) if N is count: less(1, 2).", [("g", 1)])
        self.check("g(N) if N is sum W: plus(1, 2, W).", [("g", 3)])

    def test_a_value_that_is_a_key(self):
        self.check("g(W, N) if N is sum W by W: w(X, W).", [("g", 5, 5), ("g", -2, -2), ("g", 3, 3), ("g", 0, 0)])


class NamesAmongValues(unittest.TestCase):
    HELD = held_in("w(a, 5). w(a, x). w(b, 2). w(c, y). w(b, 4).")

    def test_such_a_group_tells_nothing(self):
        for kind, told in [("sum", 6), ("least", 2), ("most", 4)]:
            with self.subTest(kind):
                self.assertEqual(facts_of(gathered_in(f"g(X, N) if N is {kind} W by X: w(X, W).", self.HELD)),
                                 [("g", "b", told)])
                self.assertEqual(gathered_in(f"g(N) if N is {kind} W: w(X, W).", self.HELD), [])

    def test_but_a_count_does(self):
        self.assertEqual(facts_of(gathered_in("g(X, N) if N is count by X: w(X, W).", self.HELD)),
                         [("g", "a", 2), ("g", "b", 2), ("g", "c", 1)])

    def test_names_among_other_words_are_no_matter(self):
        self.assertEqual(facts_of(gathered_in("g(N) if N is sum W: w(b, W), w(X, V).", self.HELD)), [("g", 30)])


class Bounds(unittest.TestCase):
    def check(self, values, kind, told):
        held = {"w": [("w", place, value) for place, value in enumerate(values)]}
        with self.subTest((values, kind)):
            self.assertEqual(facts_of(gathered_in(f"g(N) if N is {kind} W: w(X, W).", held)),
                             [("g", told)] if told is not None else [])

    def test_sums_at_the_bound_and_beyond(self):
        self.check([MOST - 1, 1], "sum", MOST)
        self.check([MOST, 1], "sum", None)
        self.check([1 - MOST, -1], "sum", -MOST)
        self.check([-MOST, -1], "sum", None)
        self.check([MOST, MOST, -MOST], "sum", MOST)
        self.check([MOST, MOST, MOST], "sum", None)

    def test_least_and_most_at_the_bound(self):
        self.check([MOST, 0, -MOST], "least", -MOST)
        self.check([MOST, 0, -MOST], "most", MOST)

    def test_one_group_beyond_and_one_within(self):
        held = held_in(f"w(a, {MOST}). w(b, 1). w(a, 1). w(b, 2).")
        self.assertEqual(facts_of(gathered_in("g(X, N) if N is sum W by X: w(X, W).", held)), [("g", "b", 3)])

    def test_2000_fills_and_2001(self):
        for kind, told in [("count", 2000), ("sum X", 1999000), ("least X", 0), ("most X", 1999)]:
            text = f"g(N) if N is {kind}: n(X)."
            with self.subTest(kind):
                self.assertEqual(facts_of(gathered_in(text, numbers("n", 2000))), [("g", told)])
                self.assertIs(refusal_of(gathered_in, text, numbers("n", 2001)), TooMany)

    def test_too_many_also_where_nothing_would_be_told(self):
        held = {**numbers("n", 2001)}
        self.assertIs(refusal_of(gathered_in, "g(N) if N is count: n(X), none.", held), TooMany)
        self.assertIs(refusal_of(gathered_in, "g(X, N) if N is count by X: n(X), less(X, 0).", held), TooMany)


class Reasons(unittest.TestCase):
    def test_of_the_number_the_key_values_and_all_grounds(self):
        held = held_in("w(a, 5). w(b, 2). w(a, 3). shut(c).")
        told = gathered_in("g(N) if N is sum W by X: w(X, W), not shut(X), less(W, 9).", held, 7)
        self.assertEqual(told, [
            (("g", 8), ("of", 7, ("a",), (
                (("has", ("w", "a", 5)), ("not", ("shut", "a")), ("less", 5, 9)),
                (("has", ("w", "a", 3)), ("not", ("shut", "a")), ("less", 3, 9))))),
            (("g", 2), ("of", 7, ("b",), ((("has", ("w", "b", 2)), ("not", ("shut", "b")), ("less", 2, 9)),)))])
        self.assertIs(type(told), list)
        self.assertTrue(all(type(pair) is tuple and type(pair[1]) is tuple for pair in told))
        self.assertTrue(all(type(part) is tuple for fact, reason in told for part in reason[2:]))

    def test_key_values_as_the_keys_stand(self):
        held = held_in("p(a, 1, x).")
        for keys, values in [("", ()), ("by A", ("a",)), ("by B, A", (1, "a")), ("by C, A, B", ("x", "a", 1))]:
            told = gathered_in(f"g if N is count {keys}: p(A, B, C).", held, 3)
            self.assertEqual(told, [(("g",), ("of", 3, values, ((("has", ("p", "a", 1, "x")),),)))])

    def test_the_order_of_groups_by_their_first_fills(self):
        held = held_in("w(c, 1). w(a, 2). w(b, 3). w(a, 4). w(c, 5).")
        told = gathered_in("g(N) if N is count by X: w(X, W).", held)
        self.assertEqual([reason[2] for fact, reason in told], [("c",), ("a",), ("b",)])
        self.assertEqual([[grounds[0][1][2] for grounds in reason[3]] for fact, reason in told], [[1, 5], [2, 4], [3]])

    def test_groups_that_tell_the_same_fact_tell_it_each(self):
        told = gathered_in("g(N) if N is count by X: w(X, W).", held_in("w(c, 1). w(a, 2)."))
        self.assertEqual(facts_of(told), [("g", 1), ("g", 1)])
        self.assertEqual([reason[2] for fact, reason in told], [("c",), ("a",)])


class Heads(unittest.TestCase):
    def check(self, head, fact):
        with self.subTest(head):
            told = gathered_in(f"{head} if N is sum W by X, Y: p(X, Y, W).", held_in("p(a, 1, 7). p(a, 1, 2)."))
            self.assertEqual(facts_of(told), [fact])

    def test_keys_result_and_values_in_any_way(self):
        self.check("g(X, Y, N)", ("g", "a", 1, 9))
        self.check("g(N, Y, X)", ("g", 9, 1, "a"))
        self.check("g(N, N, X, X)", ("g", 9, 9, "a", "a"))
        self.check("g(Y)", ("g", 1))
        self.check("g", ("g",))
        self.check("g(b, -5, N)", ("g", "b", -5, 9))


class Whole(unittest.TestCase):
    def test_against_the_slow_way(self):
        rng = random.Random(17)
        seen = 0
        for turn in range(200):
            facts = list(dict.fromkeys(some_facts(rng, rng.randint(0, 25))))
            for number, rule in enumerate(some_program(rng)):
                if rule[0] == "gather":
                    with self.subTest((turn, number)):
                        told = facts_of(gathered(number, rule, held_by_name(facts)))
                        self.assertEqual(told, slow_gather(rule, facts))
                        seen += len(told)
        self.assertGreater(seen, 100)

    def test_what_is_handed_in_stays_and_what_is_told_may_be_changed(self):
        held = held_in("w(c, 1). w(a, 2).")
        ahead = copy.deepcopy(held)
        first = gathered_in("g(N) if N is count by X: w(X, W).", held)
        again = list(first)
        first.clear()
        self.assertEqual(held, ahead)
        self.assertEqual(gathered_in("g(N) if N is count by X: w(X, W).", held), again)


if __name__ == "__main__":
    unittest.main()
