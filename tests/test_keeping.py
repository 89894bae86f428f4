import copy
import random
import unittest

from helper import TOLD, by, facts_in, has, odd_things, of, refusal_of, rules_in, some_facts, some_program, whole
from whyfacts.errors import BadFact, BadRule, BadWidth, NoFact, Ringed, TooMany, Unbound
from whyfacts.keeping import Keep
from whyfacts.store import Store
from whyfacts.walking import stands
from whyfacts.whys import rests_on, why_of
from whyfacts.words import rank_of
from whyfacts.working import worked

WAYS = """
    way(X, Y) if road(X, Y), not shut(X).
    way(X, Z) if way(X, Y), road(Y, Z).
    many(N) if N is count: way(X, Y).
"""


def keep_of(rules, told=""):
    keep = Keep(rules_in(rules))
    keep.put(facts_in(told))
    return keep


def state_of(keep):
    return (keep.told(), keep.facts(), whole(keep.store()))


class KeepTest(unittest.TestCase):
    def put(self, keep, text, came, went=""):
        with self.subTest("+ " + text):
            pair = keep.put(facts_in(text))
            self.assertEqual(pair, (facts_in(came), facts_in(went)))
            self.assertIs(type(pair), tuple)
            self.check_whole(keep)

    def take(self, keep, text, came, went=""):
        with self.subTest("- " + text):
            self.assertEqual(keep.take(facts_in(text)), (facts_in(came), facts_in(went)))
            self.check_whole(keep)

    def check_whole(self, keep):
        """What a Keep promises of its facts, whatever was done."""
        rules, told, store = keep.rules, keep.told(), keep.store()
        self.assertEqual(keep.facts(), sorted(worked(rules, told).facts(), key=rank_of))
        held = store.held()
        for fact in keep.facts():
            row = keep.why(fact)
            self.assertIs(stands(row, rules, told, held), True)
            for lower in rests_on(store.reason(fact)):
                self.assertLess(store.stamp(lower), store.stamp(fact))


class Making(KeepTest):
    def test_refused_as_need_program(self):
        ring = ("rule", ("p",), (("not", ("p",)),))
        for rules, refusal in [(None, BadRule), ((), BadRule), ("p if q.", BadRule), ([None], BadRule),
                               ([ring] * 21, TooMany),
                               ([ring, ("rule", ("p", "X"), (("has", ("q",)),))], Unbound), ([ring], Ringed),
                               ([ring, ("rule", ("p", 1), (("has", ("q",)),))], BadWidth)]:
            with self.subTest(rules):
                self.assertIs(refusal_of(Keep, rules), refusal)
        for place, thing in enumerate(odd_things()):
            with self.subTest(place):
                self.assertIs(refusal_of(Keep, thing), BadRule)
                self.assertIs(refusal_of(Keep, [thing]), BadRule)

    def test_one_that_is_made_holds_nothing(self):
        for rules in ["", "p if q.", "p if not q.", "p(X) if plus(1, 2, X).", "p(N) if N is count: not q."]:
            keep = Keep(rules_in(rules))
            self.assertEqual(state_of(keep), ([], [], []))
            self.assertIs(keep.holds(("p",)), False)
            self.assertIs(refusal_of(keep.why, ("p",)), NoFact)

    def test_behind_a_change_of_an_empty_list_what_follows_of_nothing_holds(self):
        rules = "p if not q. r(X) if plus(1, 2, X). g(N) if N is count: p. h(N) if N is count: not z."
        self.put(Keep(rules_in(rules)), "", "g(1). h(1). p. r(3).")
        self.take(Keep(rules_in(rules)), "", "g(1). h(1). p. r(3).")
        self.take(Keep(rules_in(rules)), "q.", "g(1). h(1). p. r(3).")
        self.put(Keep(rules_in(rules)), "q.", "h(1). q. r(3).")
        self.put(Keep([]), "", "")

    def test_rules_that_are_changed_behind_change_nothing(self):
        rules = rules_in("p if q.")
        keep = Keep(rules)
        self.assertEqual(rules, rules_in("p if q."))
        rules.clear()
        rules.extend(rules_in("x if q."))
        self.put(keep, "q.", "p. q.")


class Changes(KeepTest):
    def test_without_rules(self):
        keep = Keep([])
        self.put(keep, "p(a). p(1). b.", "b. p(1). p(a).")
        self.take(keep, "p(1). none.", "", "p(1).")
        self.assertEqual(keep.facts(), [("b",), ("p", "a")])

    def test_what_came_and_what_went_in_order(self):
        keep = keep_of(WAYS)
        self.put(keep, "road(b, c). road(a, b).", "many(3). road(a, b). road(b, c). way(a, b). way(a, c). way(b, c).")
        self.put(keep, "shut(b).", "many(2). shut(b).", "many(3). way(b, c).")
        self.put(keep, "shut(a).", "shut(a).", "many(2). way(a, b). way(a, c).")
        self.take(keep, "road(a, b). shut(b).", "many(1). way(b, c).", "road(a, b). shut(b).")

    def test_what_is_told_already_or_is_not(self):
        keep = keep_of(WAYS, "road(a, b).")
        before = state_of(keep)
        self.put(keep, "road(a, b).", "")
        self.put(keep, "road(a, b). road(a, b).", "")
        self.take(keep, "road(b, a). shut(x). none(1).", "")
        self.take(keep, "way(a, b).", "")
        self.put(keep, "", "")
        self.take(keep, "", "")
        self.assertEqual(state_of(keep), before)

    def test_one_fact_twice_in_a_list(self):
        keep = keep_of("p if q.")
        self.put(keep, "q. q. r. q.", "p. q. r.")
        self.take(keep, "q. q. r. r. q.", "", "p. q. r.")
        self.assertEqual(keep.told(), [])

    def test_told_facts_and_facts_in_order(self):
        keep = keep_of("p if q.", "z. q. a(b). a(1). a.")
        self.assertEqual(keep.told(), facts_in("a. a(1). a(b). q. z."))
        self.assertEqual(keep.facts(), facts_in("a. a(1). a(b). p. q. z."))

    def test_holds(self):
        keep = keep_of("p if q.", "q.")
        self.assertEqual([keep.holds(fact) for fact in facts_in("p. q. r. p(1).")], [True, True, False, False])

    def test_a_fact_comes_and_goes_in_one_change_of_a_not(self):
        keep = keep_of("a if not b. b if c. d if not a. e if N is count: d.")
        self.assertEqual(keep.facts(), facts_in("a."))
        self.put(keep, "c.", "b. c. d. e.", "a.")
        self.take(keep, "c.", "a.", "b. c. d. e.")

    def test_layers_of_gathers(self):
        keep = keep_of("out(X, N) if N is count by X: e(X, Y). top(M) if M is most N: out(X, N). best(X) if out(X, N), top(N).")
        self.put(keep, "e(a, 1). e(a, 2). e(b, 1).",
                 "best(a). e(a, 1). e(a, 2). e(b, 1). out(a, 2). out(b, 1). top(2).")
        self.put(keep, "e(b, 2).", "best(b). e(b, 2). out(b, 2).", "out(b, 1).")
        self.take(keep, "e(a, 1).", "out(a, 1).", "best(a). e(a, 1). out(a, 2).")
        self.take(keep, "e(b, 1). e(b, 2). e(a, 2).", "",
                  "best(b). e(a, 2). e(b, 1). e(b, 2). out(a, 1). out(b, 2). top(2).")

    def test_rings_of_rules_hold_nothing_up(self):
        keep = keep_of("p if q. q if p. p if s.")
        self.put(keep, "s.", "p. q. s.")
        self.take(keep, "s.", "", "p. q. s.")
        self.put(keep, "q.", "p. q.")
        self.take(keep, "q.", "", "p. q.")


class Reasons(KeepTest):
    def test_a_fact_that_holds_by_a_rule_and_is_told_then_keeps_its_reason(self):
        keep = keep_of("p if q.", "q.")
        self.assertEqual(keep.why(("p",)), [(("q",), TOLD), (("p",), by(0, has("q")))])
        self.put(keep, "p.", "")
        self.assertEqual(keep.why(("p",)), [(("q",), TOLD), (("p",), by(0, has("q")))])
        self.assertEqual(keep.told(), [("p",), ("q",)])
        self.take(keep, "q.", "", "q.")
        self.assertEqual(keep.why(("p",)), [(("p",), TOLD)])

    def test_a_fact_told_ahead_keeps_told(self):
        keep = keep_of("p if q.", "p.")
        self.put(keep, "q.", "q.")
        self.assertEqual(keep.why(("p",)), [(("p",), TOLD)])

    def test_facts_that_are_told_together_are_told_ones(self):
        keep = keep_of("p if q.", "q. p.")
        self.assertEqual(keep.why(("p",)), [(("p",), TOLD)])

    def test_a_told_fact_that_is_taken_and_still_follows(self):
        keep = keep_of("p if q. r if p.", "p. q.")
        self.assertEqual(whole(keep.store()), [(("p",), TOLD, 0), (("q",), TOLD, 1), (("r",), by(1, has("p")), 2)])
        self.take(keep, "p.", "")
        self.assertEqual(whole(keep.store()), [(("q",), TOLD, 1), (("p",), by(0, has("q")), 3),
                                               (("r",), by(1, has("p")), 4)])

    def test_stamps_and_reasons_of_what_is_not_broken_stay(self):
        keep = keep_of(WAYS, "road(a, b). road(b, c). road(x, y).")
        before = {fact: (reason, stamp) for fact, reason, stamp in whole(keep.store())}
        self.put(keep, "shut(b).", "many(3). shut(b).", "many(4). way(b, c).")
        after = {fact: (reason, stamp) for fact, reason, stamp in whole(keep.store())}
        for fact in facts_in("road(a, b). road(b, c). road(x, y). way(a, b). way(a, c). way(x, y)."):
            self.assertEqual(after[fact], before[fact])

    def test_what_rests_on_what_is_dropped_is_dropped_in_upper_layers_too(self):
        keep = keep_of("b if a. b if c. up if b, not z. g(N) if N is count: b, not z.", "a. c.")
        before = dict([(fact, stamp) for fact, reason, stamp in whole(keep.store())])
        self.take(keep, "a.", "", "a.")
        store = keep.store()
        self.assertEqual(store.reason(("b",)), by(1, has("c")))
        self.assertEqual(store.stamp(("c",)), before[("c",)])
        self.assertEqual([store.stamp(fact) for fact in facts_in("b. g(1). up.")], [5, 6, 7])

    def test_stamps_in_the_order_of_the_mending(self):
        keep = Keep(rules_in("b(X) if a(X). c(X) if a(X), not z(X). many(N) if N is count: c(X)."))
        keep.put(facts_in("y. a(2). a(1)."))
        self.assertEqual(keep.store().facts(), facts_in("a(1). a(2). y. b(1). b(2). c(1). c(2). many(2)."))
        keep.put(facts_in("z(1). a(3)."))
        self.assertEqual(keep.store().facts(),
                         facts_in("a(1). a(2). y. b(1). b(2). c(2). a(3). z(1). b(3). c(3). many(2)."))
        self.assertEqual([keep.store().stamp(fact) for fact in keep.store().facts()],
                         [0, 1, 2, 3, 4, 6, 8, 9, 10, 11, 12])

    def test_told_facts_are_held_with_their_layer(self):
        keep = Keep(rules_in("b if a. c if not z. d if c, not y."))
        keep.put(facts_in("d. c. a. x."))
        self.assertEqual(keep.store().facts(), facts_in("a. x. b. c. d."))
        keep.take(facts_in("c. a."))
        self.assertEqual(keep.store().facts(), facts_in("x. d. c."))
        self.assertEqual(keep.why(("d",)), [(("d",), TOLD)])

    def test_a_group_that_is_the_same_stays(self):
        keep = keep_of("g(X, N) if N is count by X: e(X, Y).", "e(a, 1). e(b, 1).")
        before = keep.store()
        self.put(keep, "e(b, 2).", "e(b, 2). g(b, 2).", "g(b, 1).")
        self.assertEqual(keep.store().stamp(("g", "a", 1)), before.stamp(("g", "a", 1)))
        self.assertEqual(keep.store().reason(("g", "b", 2)), of(0, ("b",), (has("e", "b", 1),), (has("e", "b", 2),)))

    def test_a_gather_that_tells_the_same_by_another_group(self):
        keep = keep_of("g(N) if N is count by X: e(X, Y).", "e(a, 1). e(b, 1).")
        self.assertEqual(keep.store().reason(("g", 1)), of(0, ("a",), (has("e", "a", 1),)))
        self.put(keep, "e(a, 2).", "e(a, 2). g(2).")
        self.assertEqual(keep.store().reason(("g", 1)), of(0, ("b",), (has("e", "b", 1),)))

    def test_no_fact(self):
        keep = keep_of("p if q.", "q.")
        self.take(keep, "q.", "", "p. q.")
        for fact in facts_in("p. q. r. p(1)."):
            self.assertIs(refusal_of(keep.why, fact), NoFact)


class OwnThings(KeepTest):
    def test_lists_handed_in_stay_and_may_be_changed_behind(self):
        keep = keep_of("p if q.")
        facts = facts_in("r. q. r.")
        keep.put(facts)
        self.assertEqual(facts, facts_in("r. q. r."))
        facts.clear()
        self.assertEqual(keep.told(), facts_in("q. r."))
        facts = facts_in("r. x.")
        keep.take(facts)
        self.assertEqual(facts, facts_in("r. x."))
        facts.append(("q",))
        self.assertEqual(keep.facts(), facts_in("p. q."))

    def test_what_is_told_is_the_askers_own(self):
        keep = Keep(rules_in("p if q."))
        pair = keep.put(facts_in("q."))
        before = state_of(keep)
        pair[0].clear()
        pair[1].append(("x",))
        for told in (keep.told(), keep.facts(), keep.why(("p",))):
            told.append(("x",))
        self.assertEqual(state_of(keep), before)
        self.assertEqual(len(keep.why(("p",))), 2)

    def test_what_was_told_is_not_changed_later(self):
        keep = keep_of("p if q.", "q.")
        told = (keep.told(), keep.facts(), keep.why(("p",)), keep.store())
        ahead = copy.deepcopy(told[:3])
        before = whole(told[3])
        pair = keep.put(facts_in("r."))
        keep.take(facts_in("q."))
        self.assertEqual(told[:3], ahead)
        self.assertEqual(whole(told[3]), before)
        self.assertEqual(pair, ([("r",)], []))

    def test_the_store_is_a_copy(self):
        keep = keep_of("p if q.", "q.")
        store = keep.store()
        self.assertIs(type(store), Store)
        store.drop(("p",))
        store.hold(("x",), TOLD)
        self.assertEqual(keep.facts(), facts_in("p. q."))
        self.put(keep, "r.", "r.")
        self.assertEqual(keep.store().stamp(("r",)), 2)

    def test_keeps_are_their_own(self):
        rules = rules_in("p if q.")
        one, other = Keep(rules), Keep(rules)
        one.put(facts_in("q."))
        self.assertEqual(other.facts(), [])


class Refusals(KeepTest):
    def check(self, keep, facts, refusal):
        before = state_of(keep)
        for change in (keep.put, keep.take):
            with self.subTest((change.__name__, len(facts))):
                self.assertIs(refusal_of(change, facts), refusal)
                self.assertEqual(state_of(keep), before)

    def test_things_of_any_kind_among_the_facts(self):
        keep = keep_of("p(X) if q(X).", "q(1). r.")
        for thing in odd_things() + [("p", "X"), ["q", 1], ("q", True), ("Q", 1), ("has", 1), "q(1).",
                                     ("q", 1, 2, 3, 4, 5), ("x", 1000000000)]:
            self.check(keep, [thing], BadFact)
            self.check(keep, [("q", 2), thing], BadFact)
            self.check(keep, [thing, ("q", 2)], BadFact)

    def test_widths(self):
        keep = keep_of("p(X) if q(X), not r. g(N) if N is count: s(X, Y), same(a, b).", "q(1).")
        for fact in [("p",), ("p", 1, 2), ("q",), ("q", 1, 2), ("r", 1), ("g",), ("g", 1, 2), ("s", 1), ("s", 1, 2, 3)]:
            self.check(keep, [fact], BadWidth)
            self.check(keep, [("q", 5), fact], BadWidth)

    def test_the_first_fact_that_has_a_fault(self):
        keep = keep_of("p(X) if q(X).", "q(1).")
        self.check(keep, [("q",), None], BadWidth)
        self.check(keep, [None, ("q",)], BadFact)
        self.check(keep, [("q", 2), ("q",), ("q", "X")], BadWidth)
        self.check(keep, [("q", 2), ("q", "X"), ("q",)], BadFact)
        self.check(keep, [("q", "X", "Y")], BadFact)
        self.check(keep, [("x", number) for number in range(300)] + [("q",)], BadWidth)
        self.check(keep, [("x", number) for number in range(300)] + [None], BadFact)

    def test_a_name_in_no_rule_has_any_widths(self):
        keep = keep_of("p(x) if q(a, b).")
        self.put(keep, "x. x(1). x(1, 2). a. b(x).", "a. b(x). x. x(1). x(1, 2).")
        self.take(keep, "x(1). a(1, 2, 3, 4).", "", "x(1).")

    def test_the_next_good_change_goes_on(self):
        keep = keep_of("p(X) if q(X).", "q(1).")
        self.check(keep, [("q", 2), ("q",)], BadWidth)
        self.put(keep, "q(2).", "p(2). q(2).")
        self.assertEqual([keep.store().stamp(fact) for fact in facts_in("q(2). p(2).")], [2, 3])

    def test_too_many_told_facts(self):
        keep = Keep([])
        self.assertIs(refusal_of(keep.put, [("n", number) for number in range(201)]), TooMany)
        self.assertEqual(state_of(keep), ([], [], []))
        keep.put([("n", number) for number in range(200)])
        before = state_of(keep)
        self.assertIs(refusal_of(keep.put, [("n", 200)]), TooMany)
        self.assertEqual(state_of(keep), before)
        self.assertEqual(keep.put([("n", 5)]), ([], []))
        keep.take([("n", 0)])
        self.assertEqual(keep.put([("n", 200)]), ([("n", 200)], []))
        self.assertEqual(keep.store().stamp(("n", 200)), 200)

    def test_too_many_that_follow(self):
        keep = keep_of("m(X) if n(X).")
        keep.put([("n", number) for number in range(100)])
        self.assertEqual(len(keep.facts()), 200)
        before = state_of(keep)
        self.assertIs(refusal_of(keep.put, [("n", 100)]), TooMany)
        self.assertEqual(state_of(keep), before)
        self.take(keep, "n(0).", "", "m(0). n(0).")
        self.put(keep, "n(100).", "m(100). n(100).")

    def test_too_many_behind_a_take(self):
        keep = keep_of("m(X) if n(X), not off.", "off.")
        keep.put([("n", number) for number in range(101)])
        self.assertEqual(len(keep.facts()), 102)
        before = state_of(keep)
        self.assertIs(refusal_of(keep.take, [("off",)]), TooMany)
        self.assertEqual(state_of(keep), before)
        self.take(keep, "n(0).", "", "n(0).")
        self.assertEqual(len(keep.take([("off",)])[0]), 100)

    def test_too_many_where_upper_layers_bring_nothing(self):
        keep = keep_of("m(X) if n(X), not off.")
        keep.put([("n", number) for number in range(100)])
        before = state_of(keep)
        self.assertEqual(len(keep.facts()), 200)
        self.assertIs(refusal_of(keep.put, [("x",)]), TooMany)
        self.assertEqual(state_of(keep), before)

    def test_facts_of_upper_layers_that_go_make_room(self):
        keep = keep_of("m(X) if n(X), not off.")
        keep.put([("n", number) for number in range(100)])
        pair = keep.put([("off",)] + [("x", number) for number in range(99)])
        self.assertEqual((len(pair[0]), len(pair[1])), (100, 100))
        self.assertEqual(len(keep.facts()), 200)
        self.check_whole(keep)

    def test_many_facts_of_upper_layers_make_room(self):
        keep = keep_of("m(X) if n(X), not off. k(X) if m(X).")
        keep.put([("n", number) for number in range(60)])
        before = state_of(keep)
        more = [("x", number) for number in range(140)]
        self.assertIs(refusal_of(keep.put, [("off",)] + more), TooMany)
        self.assertEqual(state_of(keep), before)
        pair = keep.put([("off",)] + more[1:])
        self.assertEqual((len(pair[0]), len(pair[1]), len(keep.facts())), (140, 120, 200))
        self.check_whole(keep)

    def test_where_it_would_never_end(self):
        keep = keep_of("n(Y) if n(X), plus(X, 1, Y).", "x.")
        before = state_of(keep)
        self.assertIs(refusal_of(keep.put, [("n", 0)]), TooMany)
        self.assertEqual(state_of(keep), before)
        self.put(keep, "n(999999900).", " ".join([f"n({999999900 + more})." for more in range(100)]))

    def test_too_many_fills(self):
        for body in ["n(X), n(Y), less(X, Y), less(Y, X).", "N is count: n(X), n(Y), less(X, Y), less(Y, X)."]:
            keep = keep_of(f"p if {body}")
            keep.put([("n", number) for number in range(44)])
            before = state_of(keep)
            self.assertIs(refusal_of(keep.put, [("n", 44)]), TooMany)
            self.assertEqual(state_of(keep), before)
            self.take(keep, "n(0).", "", "n(0).")
            self.put(keep, "n(44).", "n(44).")


class ManyChanges(KeepTest):
    def check_change(self, keep, change, facts):
        """One change against working from the start; True where it was done."""
        old, told = keep.store(), keep.told()
        wanted = set(told) | set(facts) if change == "put" else set(told) - set(facts)
        call = keep.put if change == "put" else keep.take
        if refusal_of(worked, keep.rules, list(wanted)) is TooMany:
            before = state_of(keep)
            self.assertIs(refusal_of(call, facts), TooMany)
            self.assertEqual(state_of(keep), before)
            return False
        came, went = call(facts)
        new = keep.store()
        self.assertEqual(came, sorted([fact for fact in new.facts() if not old.has(fact)], key=rank_of))
        self.assertEqual(went, sorted([fact for fact in old.facts() if not new.has(fact)], key=rank_of))
        self.assertEqual(keep.told(), sorted(wanted, key=rank_of))
        self.check_whole(keep)
        held = new.held()
        for fact in old.facts():
            stays = new.has(fact) and new.stamp(fact) == old.stamp(fact)
            self.assertIs(stays, stands(why_of(old, fact), keep.rules, keep.told(), held))
            if stays:
                self.assertEqual(new.reason(fact), old.reason(fact))
        return True

    def test_over_many_programs(self):
        rng = random.Random(26)
        for turn in range(250):
            keep = Keep(some_program(rng))
            for step in range(8):
                change = rng.choice(["put", "put", "take"])
                facts = some_facts(rng, rng.randint(0, 5))
                if change == "take" and keep.told():
                    facts += rng.sample(keep.told(), rng.randint(0, len(keep.told())))
                with self.subTest((turn, step)):
                    self.check_change(keep, change, facts)

    def test_close_to_200_facts(self):
        rng = random.Random(200)
        keep = Keep(rules_in("pair(X, Y) if p(X), p(Y), not off. low(X) if p(X). many(N) if N is count: pair(X, Y). up(X) if low(X), off."))
        keep.put([("p", number) for number in range(12)])
        done = 0
        for step in range(60):
            change = rng.choice(["put", "take"])
            facts = [rng.choice([("p", rng.randint(0, 15)), ("off",),
                                 ("x", rng.randint(0, 30))]) for _ in range(rng.randint(0, 4))]
            with self.subTest(step):
                done += self.check_change(keep, change, facts)
        self.assertTrue(20 < done < 60, done)


if __name__ == "__main__":
    unittest.main()
