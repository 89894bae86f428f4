import copy
import unittest

from helper import TOLD, by, has, numbers, of, refusal_of, rules_in, store_of, whole
from whyfacts.breaking import broken
from whyfacts.errors import TooMany

RULES = rules_in("""
    p(X) if q(X), not r(X).
    s(X) if p(X).
    g(N) if N is sum W by X: w(X, W), not z(W).
    p(X) if s(X), s(X).
    t if u.
""")
ALL = [0, 1, 2, 3, 4]


def p_of(value):
    return (("p", value), by(0, has("q", value), ("not", ("r", value))))


def s_of(value):
    return (("s", value), by(1, has("p", value)))


def w_ground(key, value):
    return (has("w", key, value), ("not", ("z", value)))


W_FACTS = [(("w", "a", 5), TOLD), (("w", "b", 1), TOLD), (("w", "a", 2), TOLD)]
G_A = of(2, ("a",), w_ground("a", 5), w_ground("a", 2))


class BrokenTest(unittest.TestCase):
    def check(self, pairs, found, numbers=None, gone=None, came=None, untold=None, rules=None):
        store = pairs if not isinstance(pairs, list) else store_of(*pairs)
        handed = [RULES if rules is None else rules, ALL if numbers is None else numbers, gone or [], came or [],
                  untold or []]
        ahead = copy.deepcopy(handed)
        before = whole(store)
        with self.subTest((before, handed)):
            told = broken(store, *handed)
            self.assertEqual(told, found)
            self.assertIs(type(told), list)
            self.assertEqual(handed, ahead)
            self.assertEqual(whole(store), before)
            told.append(("more",))
            self.assertEqual(broken(store, *handed), found)


class Told(BrokenTest):
    PAIRS = [(("q", 1), TOLD), (("p", 9), TOLD), p_of(1)]

    def test_nothing_is_broken(self):
        self.check([], [])
        self.check(self.PAIRS, [])

    def test_a_told_fact_of_untold(self):
        self.check(self.PAIRS, [("p", 9)], untold=[("p", 9)])
        self.check([(("x",), TOLD), (("y",), TOLD)], [("y",)], untold=[("y",), ("z",)])
        self.check([(("x",), TOLD), (("y",), TOLD)], [("x",), ("y",)], numbers=[], untold=[("y",), ("x",)])

    def test_one_of_untold_whose_reason_is_not_told(self):
        self.check(self.PAIRS, [], untold=[("p", 1)])
        self.check([(("x",), by(0, has("q", 1)))], [], untold=[("x",)])
        self.check([(("x",), by(0, has("q", 1)))], [("x",)], untold=[("x",)], gone=[("q", 1)])

    def test_told_facts_do_not_rest_on_others(self):
        self.check(self.PAIRS, [], gone=[("p", 9)], came=[("p", 9)])

    def test_untold_facts_that_are_not_held(self):
        self.check(self.PAIRS, [], untold=[("p", 5), ("none",)])


class Grounds(BrokenTest):
    def test_a_has_that_is_gone(self):
        self.check([(("q", 1), TOLD), (("q", 2), TOLD), p_of(1), p_of(2)], [("p", 2)], gone=[("q", 2)])
        self.check([p_of(1), p_of(2)], [("p", 1), ("p", 2)], gone=[("q", 2), ("x",), ("q", 1)])

    def test_a_has_that_is_gone_though_it_is_held_anew(self):
        self.check([(("q", 1), TOLD), p_of(1)], [("p", 1)], gone=[("q", 1)])

    def test_a_has_that_is_not_held_but_is_not_among_those_gone(self):
        self.check([p_of(1)], [])

    def test_a_not_that_came(self):
        self.check([p_of(1), p_of(2)], [("p", 1)], came=[("r", 1)])
        self.check([(("r", 1), TOLD), p_of(1)], [])

    def test_the_other_way_round_breaks_nothing(self):
        self.check([p_of(1)], [], came=[("q", 1)], gone=[("r", 1)])

    def test_facts_of_the_same_name_and_another_width(self):
        self.check([p_of(1)], [], gone=[("q",), ("q", 1, 1), ("q", 2)], came=[("r",), ("r", 1, 1)])

    def test_facts_of_other_heads_stay(self):
        pairs = [p_of(1), (("x",), by(0, has("q", 1))), (("t",), by(4, has("q", 1)))]
        self.check(pairs, [("p", 1), ("t",)], gone=[("q", 1)])
        self.check(pairs, [("p", 1)], gone=[("q", 1)], numbers=[0])
        self.check(pairs, [("p", 1)], gone=[("q", 1)], numbers=[3])
        self.check(pairs, [("t",)], gone=[("q", 1)], numbers=[1, 4])
        self.check(pairs, [], gone=[("q", 1)], numbers=[])
        self.check(pairs, [("x",)], gone=[("q", 1)], numbers=[], untold=[("x",)])

    def test_heads_by_name_whatever_the_rule_of_the_reason(self):
        self.check([(("p", 1), by(1, has("a")))], [("p", 1)], gone=[("a",)], numbers=[0])
        self.check([(("s", 1), by(0, has("a")))], [], gone=[("a",)], numbers=[0])


class Chains(BrokenTest):
    CHAIN = [p_of(1), s_of(1), (("p", 2), by(3, has("s", 1), has("s", 1))), s_of(2)]

    def test_a_chain_in_one_list(self):
        self.check(self.CHAIN, [("p", 1), ("s", 1), ("p", 2), ("s", 2)], gone=[("q", 1)])
        self.check(self.CHAIN, [("p", 2), ("s", 2)], untold=[("p", 2)], gone=[("s", 1)])

    def test_a_chain_ends_at_facts_of_other_heads(self):
        self.check(self.CHAIN, [("p", 1)], gone=[("q", 1)], numbers=[0])
        pairs = [p_of(1), (("x",), by(1, has("p", 1))), (("t",), by(4, has("x")))]
        self.check(pairs, [("p", 1)], gone=[("q", 1)])

    def test_a_chain_from_an_untold_fact(self):
        pairs = [(("q", 1), TOLD), p_of(1), s_of(1)]
        self.check(pairs, [("q", 1), ("p", 1), ("s", 1)], untold=[("q", 1)])
        self.check(pairs, [("q", 1)], numbers=[], untold=[("q", 1)])

    def test_by_stamps_also_where_stamps_do_not_follow_the_grounds(self):
        pairs = list(reversed(self.CHAIN))
        self.check(pairs, [("s", 2), ("p", 2), ("s", 1), ("p", 1)], gone=[("q", 1)])

    def test_by_stamps_behind_a_drop(self):
        store = store_of(p_of(1), p_of(2), s_of(1))
        store.drop(("p", 1))
        store.hold(*p_of(1))
        self.check(store, [("p", 2), ("s", 1), ("p", 1)], gone=[("q", 1), ("q", 2)])

    def test_a_long_chain(self):
        pairs = [(("p", number), by(3, has("p", number - 1))) for number in range(1, 500)]
        self.check(pairs, [fact for fact, reason in pairs], gone=[("p", 0)])

    def test_a_chain_through_an_of(self):
        pairs = W_FACTS + [(("g", 7), G_A), (("t",), by(4, has("g", 7)))]
        self.check(pairs, [("g", 7), ("t",)], gone=[("w", "a", 2)])

    def test_facts_that_rest_on_one_another_alone_are_not_broken(self):
        self.check([(("p", 1), by(1, has("s", 1))), (("s", 1), by(1, has("p", 1)))], [])


class Groups(BrokenTest):
    def group(self, reason, is_broken, fact=("g", 7), pairs=W_FACTS, **more):
        self.check(pairs + [(fact, reason)], [fact] if is_broken else [], **more)

    def test_a_group_as_it_was(self):
        self.group(G_A, False)
        self.group(of(2, ("b",), w_ground("b", 1)), False, fact=("g", 1))

    def test_a_ground_gone_or_come(self):
        self.group(G_A, True, gone=[("w", "a", 2)])
        self.group(G_A, True, came=[("z", 5)])
        self.group(G_A, False, gone=[("w", "b", 1)], came=[("z", 1)])

    def test_order_aside(self):
        self.group(of(2, ("a",), w_ground("a", 2), w_ground("a", 5)), False)

    def test_one_ground_twice(self):
        self.group(of(2, ("a",), w_ground("a", 2), w_ground("a", 5), w_ground("a", 5)), True)
        self.group(of(2, ("a",), w_ground("a", 5), w_ground("a", 5)), True)

    def test_one_more_or_one_less(self):
        self.group(G_A, True, pairs=W_FACTS + [(("w", "a", 0), TOLD)])
        self.group(G_A, True, pairs=W_FACTS[:2])
        self.group(G_A, False, pairs=W_FACTS + [(("w", "c", 0), TOLD)])
        self.group(of(2, ("a",), w_ground("a", 5)), True)

    def test_without_grounds(self):
        self.group(of(2, ("a",)), True)
        self.group(of(2, ("c",)), True)
        self.group(of(2, ("c",)), True, fact=("g", 0))

    def test_no_group(self):
        self.group(G_A, True, pairs=[])
        self.group(of(2, ("c",), w_ground("c", 7)), True)

    def test_another_number_of_key_values(self):
        for key_values in [(), ("a", "a"), ("a", 5), ("a", 5, 2)]:
            self.group(("of", 2, key_values, G_A[3]), True)

    def test_another_key(self):
        self.group(("of", 2, ("b",), G_A[3]), True)

    def test_another_fact_or_none(self):
        self.group(G_A, True, fact=("g", 8))
        self.group(G_A, True, fact=("g", "a"))
        self.group(of(2, ("d",), w_ground("d", 1), w_ground("d", "x")), True, fact=("g", 1),
                   pairs=[(("w", "d", 1), TOLD), (("w", "d", "x"), TOLD)])
        self.group(of(2, ("d",), w_ground("d", 999999999), w_ground("d", 1)), True, fact=("g", 1),
                   pairs=[(("w", "d", 999999999), TOLD), (("w", "d", 1), TOLD)])

    def test_a_not_that_is_held_now(self):
        self.group(G_A, True, pairs=W_FACTS + [(("z", 2), TOLD)])

    def test_facts_of_other_heads_stay(self):
        self.check([(("g", 7), G_A)], [], numbers=[0, 1, 3])
        self.check([(("x",), of(2, ("a",)))], [])
        self.check([(("x",), of(2, ("a",)))], [("x",)], untold=[("x",)])

    def test_several_groups_of_one_gather(self):
        good = (("g", 1), of(2, ("b",), w_ground("b", 1)))
        bad = (("g", 9), of(2, ("a",), w_ground("a", 5)))
        self.check(W_FACTS + [bad, good], [("g", 9)])
        self.check(W_FACTS + [good, bad, (("g", 7), G_A), (("g", 2), of(2, ("c",)))], [("g", 9), ("g", 2)])

    def test_a_number_that_is_none_of_a_gather(self):
        for number in [0, 5, 99, -3]:
            self.group(("of", number, ("a",), G_A[3]), True)

    def test_too_many_fills(self):
        rules = rules_in("g(N) if N is count: n(X).")
        pairs = [(fact, TOLD) for fact in numbers("n", 2001)["n"]]
        store = store_of(*pairs, (("g", 1), of(0, (), (has("n", 1),))))
        self.assertIs(refusal_of(broken, store, rules, [0], [], [], []), TooMany)
        self.assertEqual(broken(store, rules, [], [], [], []), [])


if __name__ == "__main__":
    unittest.main()
