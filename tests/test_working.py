import copy
import random
import unittest

from helper import TOLD, facts_in, has, refusal_of, rules_in, slow_work, some_worked, store_with, whole
from whyfacts.errors import TooMany
from whyfacts.reading import read_program
from whyfacts.store import Store
from whyfacts.working import closed, worked
from whyfacts.words import rank_of

def worked_in(text):
    rules, told = read_program(text)
    return worked(rules, told)


class Closing(unittest.TestCase):
    def check(self, rules, told, came, numbers=None, most=1000):
        """The facts that came, in order, each with its reason."""
        store = store_with(told)
        ahead = whole(store)
        rules = rules_in(rules)
        numbers = list(range(len(rules))) if numbers is None else numbers
        with self.subTest((rules, told)):
            told_came = closed(store, rules, numbers, most)
            self.assertIs(type(told_came), list)
            self.assertEqual([(fact, store.reason(fact)) for fact in told_came], came)
            after = whole(store)
            self.assertEqual(after[:len(ahead)], ahead)
            self.assertEqual([fact for fact, reason, stamp in after[len(ahead):]], told_came)
            self.assertEqual([stamp for fact, reason, stamp in after], list(range(len(after))))

    def test_nothing_comes(self):
        self.check("", "p. q.", [])
        self.check("r if s.", "p. q.", [])
        self.check("p if q. q if p.", "p. q.", [])

    def test_one_round(self):
        self.check("way(X, Y) if road(X, Y).", "road(b, c). road(a, b).", [
            (("way", "b", "c"), ("by", 0, (has("road", "b", "c"),))),
            (("way", "a", "b"), ("by", 0, (has("road", "a", "b"),)))])

    def test_reasons_have_all_grounds(self):
        self.check("p(Y) if q(X), not r(X), less(X, 5), plus(X, 1, Y), same(Y, Y).", "q(1). r(2). q(2).", [
            (("p", 2), ("by", 0, (has("q", 1), ("not", ("r", 1)), ("less", 1, 5), ("plus", 1, 1, 2), ("same", 2, 2))))])

    def test_a_fact_of_this_round_is_no_ground_in_it(self):
        self.check("b if a. c if b. c if a. d if c.", "a.", [
            (("b",), ("by", 0, (has("a"),))), (("c",), ("by", 2, (has("a"),))), (("d",), ("by", 3, (has("c"),)))])
        self.check("c if b. b if a. d if b. d if c.", "a.", [
            (("b",), ("by", 1, (has("a"),))), (("c",), ("by", 0, (has("b"),))), (("d",), ("by", 2, (has("b"),)))])

    def test_the_order_of_rules_and_fills(self):
        self.check("z(X) if n(X). a(X) if n(X).", "n(2). n(1).", [
            (("z", 2), ("by", 0, (has("n", 2),))), (("z", 1), ("by", 0, (has("n", 1),))),
            (("a", 2), ("by", 1, (has("n", 2),))), (("a", 1), ("by", 1, (has("n", 1),)))])
        self.check("p if n(X).", "n(2). n(1).", [(("p",), ("by", 0, (has("n", 2),)))])
        self.check("p if n(1). p if n(2).", "n(2). n(1).", [(("p",), ("by", 0, (has("n", 1),)))])

    def test_rounds_go_on_until_one_brings_nothing(self):
        self.check("n(Y) if n(X), less(X, 3), plus(X, 1, Y).", "n(0).", [
            (("n", number + 1), ("by", 0, (has("n", number), ("less", number, 3), ("plus", number, 1, number + 1))))
            for number in range(3)])

    def test_a_rule_is_asked_again_in_a_later_round(self):
        store = store_with("s. e(a, b). e(b, c). e(c, d). go(a).")
        rules = rules_in("go(Y) if go(X), e(X, Y). end if go(d), s. late if end.")
        self.assertEqual(closed(store, rules, [0, 1, 2], 100), [("go", "b"), ("go", "c"), ("go", "d"), ("end",),
                                                                ("late",)])

    def test_gathers_come_first_and_once(self):
        self.check("p(X) if q(X). many(N) if N is count: p(X).", "q(1). q(2). p(0).", [
            (("many", 1), ("of", 1, (), ((has("p", 0),),))),
            (("p", 1), ("by", 0, (has("q", 1),))), (("p", 2), ("by", 0, (has("q", 2),)))])

    def test_gathers_tell_over_what_was_held_at_the_beginning(self):
        self.check("many(N) if N is count: p(X). more(N) if N is count: many(X). p(9) if many(X).", "p(0). many(5).", [
            (("many", 1), ("of", 0, (), ((has("p", 0),),))), (("more", 1), ("of", 1, (), ((has("many", 5),),))),
            (("p", 9), ("by", 2, (has("many", 5),)))])

    def test_facts_of_gathers_are_grounds_in_the_first_round(self):
        self.check("big if many(N), less(1, N). many(N) if N is count: p(X).", "p(0). p(1).", [
            (("many", 2), ("of", 1, (), ((has("p", 0),), (has("p", 1),)))),
            (("big",), ("by", 0, (has("many", 2), ("less", 1, 2))))])

    def test_groups_that_tell_the_same_fact(self):
        self.check("g(N) if N is count by X: p(X).", "p(b). p(a).",
                   [(("g", 1), ("of", 0, ("b",), ((has("p", "b"),),)))])

    def test_what_is_held_keeps_its_reason_and_stamp(self):
        store = store_with("q. r.")
        store.hold(("p",), ("by", 7, ()))
        ahead = whole(store)
        self.assertEqual(closed(store, rules_in("p if q. r if q. q if N is count: p."), [0, 1, 2], 100), [])
        self.assertEqual(whole(store), ahead)

    def test_some_of_the_numbers_alone(self):
        rules = "b if a. c if a. g(N) if N is count: a. d if b. d if c. h(N) if N is count: a."
        self.check(rules, "a.", [], [])
        self.check(rules, "a.", [(("c",), ("by", 1, (has("a"),))), (("d",), ("by", 4, (has("c"),)))], [1, 3, 4])
        self.check(rules, "a.", [(("h", 1), ("of", 5, (), ((has("a"),),))), (("b",), ("by", 0, (has("a"),)))], [0, 5])

    def test_a_name_below_a_not_that_comes_in_the_same_closing(self):
        self.check("p if not q. q if s.", "s.", [(("p",), ("by", 0, (("not", ("q",)),))),
                                                 (("q",), ("by", 1, (has("s"),)))])

    def test_what_is_handed_in_stays_and_what_is_told_may_be_changed(self):
        rules = rules_in("b if a. c if b.")
        numbers = [0, 1]
        store = store_with("a.")
        came = closed(store, rules, numbers, 100)
        came.clear()
        self.assertEqual((rules, numbers), (rules_in("b if a. c if b."), [0, 1]))
        self.assertEqual(store.facts(), [("a",), ("b",), ("c",)])

    def test_behind_a_drop(self):
        store = store_with("a. b.")
        store.drop(("b",))
        self.assertEqual(closed(store, rules_in("b if a."), [0], 2), [("b",)])
        self.assertEqual(whole(store), [(("a",), TOLD, 0), (("b",), ("by", 0, (has("a"),)), 2)])


class ClosingTooMany(unittest.TestCase):
    def check(self, rules, told, most, refusal):
        store = store_with(told)
        rules = rules_in(rules)
        with self.subTest((rules, told, most)):
            self.assertIs(refusal_of(closed, store, rules, list(range(len(rules))), most), refusal)
            self.assertLessEqual(len(store.facts()), max(most, len(facts_in(told))))

    def test_just_there(self):
        for rules in ["b if a. c if b.", "b if a. c if a.", "b if N is count: a. c if N is count: a.",
                      "c if N is count: a. b if a."]:
            self.check(rules, "a.", 3, None)
            self.check(rules, "a.", 2, TooMany)
            self.check(rules, "a.", 1, TooMany)
            self.check(rules, "a.", 0, TooMany)

    def test_many_more_are_held_ahead_and_nothing_comes(self):
        self.check("b if a. c if N is count: a.", "a. b. c. d. e.", 1, None)
        self.check("b if a.", "a. b. c. d. e.", 0, None)
        self.check("", "a. b.", 0, None)
        self.check("b if a.", "a. c. d. e.", 3, TooMany)

    def test_where_it_would_never_end(self):
        self.check("n(Y) if n(X), plus(X, 1, Y).", "n(0).", 50, TooMany)
        self.check("n(Y) if n(X), plus(X, 1, Y).", "n(999999990).", 10, None)
        self.check("n(Y) if n(X), plus(X, 1, Y).", "n(999999990).", 9, TooMany)

    def test_too_many_fills(self):
        many = " ".join(f"n({number})." for number in range(46))
        self.check("p if n(X), n(Y), same(X, Y).", many, 1000, TooMany)
        self.check("p if N is count: n(X), n(Y), same(X, Y).", many, 1000, TooMany)
        self.check("p if n(X), n(Y), same(X, Y).", many.replace("n(45).", ""), 1000, TooMany)
        self.check("p if n(X), n(Y), same(X, Y).", many.replace("n(45).", "").replace("n(44).", ""), 1000, None)

    def test_too_many_fills_in_a_later_round(self):
        rules = "n(Y) if n(X), less(X, 44), plus(X, 1, Y). p if n(X), n(Y)."
        self.check(rules, "n(0).", 1000, TooMany)
        self.check(rules.replace("44", "43"), "n(0).", 1000, None)


class FromTheStart(unittest.TestCase):
    def test_told_facts_in_order_each_once(self):
        told = [("p", "a"), ("p", 2), ("b",), ("p",), ("p", 2), ("a", "z"), ("p", -1), ("b",)]
        store = worked([], told)
        self.assertIs(type(store), Store)
        facts = [("a", "z"), ("b",), ("p",), ("p", -1), ("p", 2), ("p", "a")]
        self.assertEqual(whole(store), [(fact, TOLD, place) for place, fact in enumerate(facts)])

    def test_nothing_told(self):
        self.assertEqual(worked([], []).facts(), [])
        self.assertEqual(worked_in("p if q.").facts(), [])

    def test_what_follows_of_nothing(self):
        self.assertEqual(whole(worked_in("p if not q. r(X) if plus(1, 2, X). many(N) if N is count: p.")), [
            (("r", 3), ("by", 1, (("plus", 1, 2, 3),)), 0), (("p",), ("by", 0, (("not", ("q",)),)), 1),
            (("many", 1), ("of", 2, (), ((has("p"),),)), 2)])

    def test_a_told_fact_that_follows_keeps_its_reason(self):
        store = worked_in("p if q. p. q.")
        self.assertEqual(whole(store), [(("p",), TOLD, 0), (("q",), TOLD, 1)])

    def test_layer_by_layer(self):
        store = worked_in("""
            far(X) if place(X), not way(a, X).
            way(X, Y) if road(X, Y).
            way(X, Z) if way(X, Y), road(Y, Z).
            many(N) if N is count: far(X).
            road(a, b). road(b, c). road(d, e). place(b). place(c). place(d). place(e). place(a).
        """)
        self.assertEqual(store.facts()[8:], [("way", "a", "b"), ("way", "b", "c"), ("way", "d", "e"), ("way", "a", "c"),
                                             ("far", "a"), ("far", "d"), ("far", "e"), ("many", 3)])
        self.assertEqual(store.reason(("way", "a", "c")), ("by", 2, (has("way", "a", "b"), has("road", "b", "c"))))
        self.assertEqual(store.reason(("many", 3)), ("of", 3, (), ((has("far", "a"),), (has("far", "d"),),
                                                                   (has("far", "e"),))))

    def test_not_of_what_a_lower_layer_gives(self):
        self.assertEqual(worked_in("dry if not wet. wet if rain. rain.").facts(), [("rain",), ("wet",)])
        self.assertEqual(worked_in("dry if not wet. wet if rain.").facts(), [("dry",)])
        self.assertEqual(worked_in("a if not b. b if not c. c if not d. d if not e.").facts(), [("d",), ("b",)])

    def test_gathers_over_what_rules_gave(self):
        self.assertEqual(worked_in("n(N) if N is count: p(X). p(X) if q(X). p(1). q(2). q(3).").facts()[3:],
                         [("p", 2), ("p", 3), ("n", 3)])
        self.assertEqual(worked_in("n(N) if N is sum M: m(X, M). m(X, N) if N is count by X: e(X, Y). e(a, 1). e(a, 2). e(b, 1).").facts()[3:],
                         [("m", "a", 2), ("m", "b", 1), ("n", 3)])

    def test_rules_that_lean_on_one_another_and_on_themselves(self):
        store = worked_in("even(Y) if odd(X), next(X, Y). odd(Y) if even(X), next(X, Y). even(0). " +
                          " ".join(f"next({one}, {one + 1})." for one in range(6)))
        self.assertEqual(store.facts()[7:], [("odd", 1), ("even", 2), ("odd", 3), ("even", 4), ("odd", 5), ("even", 6)])
        self.assertEqual(worked_in("p if p.").facts(), [])
        self.assertEqual(worked_in("p if q. q if p.").facts(), [])

    def test_up_to_200_told_facts(self):
        told = [("n", number) for number in range(200)]
        self.assertEqual(len(worked([], told).facts()), 200)
        self.assertEqual(len(worked([], told + told).facts()), 200)
        self.assertIs(refusal_of(worked, [], told + [("n", 200)]), TooMany)
        self.assertEqual(len(worked(rules_in("n(0) if n(1)."), told).facts()), 200)
        self.assertIs(refusal_of(worked, rules_in("m if n(1)."), told), TooMany)

    def test_up_to_200_facts_that_follow(self):
        for rules in ["n(Y) if n(X), less(X, {}), plus(X, 1, Y).",
                      "n(Y) if n(X), less(X, {}), plus(X, 1, Y). n(0) if n(0)."]:
            self.assertEqual(len(worked(rules_in(rules.format(199)), [("n", 0)]).facts()), 200)
            self.assertIs(refusal_of(worked, rules_in(rules.format(200)), [("n", 0)]), TooMany)
        told = [("n", number) for number in range(100)]
        self.assertEqual(len(worked(rules_in("m(X) if n(X)."), told).facts()), 200)
        self.assertIs(refusal_of(worked, rules_in("m(X) if n(X). k if not z."), told), TooMany)
        self.assertIs(refusal_of(worked, rules_in("m(X) if n(X)."), told + [("n", 100)]), TooMany)
        self.assertEqual(len(worked(rules_in("m(X, N) if N is count by X: n(X)."), told).facts()), 200)
        self.assertIs(refusal_of(worked, rules_in("m(X, N) if N is count by X: n(X)."), told + [("n", 100)]), TooMany)

    def test_too_many_fills(self):
        told = [("n", number) for number in range(45)]
        rules = rules_in("p if n(X), n(Y), less(X, Y), less(Y, X).")
        self.assertEqual(len(worked(rules, told[:44]).facts()), 44)
        self.assertIs(refusal_of(worked, rules, told), TooMany)

    def test_what_is_handed_in_stays_and_what_is_changed_behind_changes_nothing(self):
        rules = rules_in("b if a. c(N) if N is count: b.")
        told = [("a",), ("d",), ("a",)]
        ahead = copy.deepcopy((rules, told))
        store = worked(rules, told)
        self.assertEqual((rules, told), ahead)
        rules.clear()
        told.clear()
        self.assertEqual(store.facts(), [("a",), ("d",), ("b",), ("c", 1)])

    def test_a_new_store_each_time(self):
        first = worked([], [("a",)])
        first.hold(("b",), TOLD)
        self.assertEqual(worked([], [("a",)]).facts(), [("a",)])


class Whole(unittest.TestCase):
    def test_against_the_slow_way_and_turned_about(self):
        rng = random.Random(4)
        follow = 0
        for turn, rules, told, store in some_worked(21, 300):
            with self.subTest(turn):
                facts = store.facts()
                self.assertEqual(len(set(facts)), len(facts))
                self.assertEqual(set(facts), slow_work(rules, told))
                follow += len(facts) - len(set(told))
                rng.shuffle(rules)
                rng.shuffle(told)
                self.assertEqual(sorted(worked(rules, told).facts(), key=rank_of), sorted(facts, key=rank_of))
        self.assertGreater(follow, 300)


if __name__ == "__main__":
    unittest.main()
