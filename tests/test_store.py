import unittest

from helper import TOLD, refusal_of, whole
from whyfacts.errors import NoFact
from whyfacts.store import Store

BY = ("by", 0, (("has", ("p", 1)),))
OF = ("of", 1, (), ((("has", ("p", 1)),),))


def store_told(*facts):
    store = Store()
    for fact in facts:
        store.hold(fact, TOLD)
    return store


class Holding(unittest.TestCase):
    def test_an_empty_store(self):
        store = Store()
        self.assertEqual(store.facts(), [])
        self.assertEqual(store.held(), {})
        self.assertIs(store.has(("p",)), False)

    def test_facts_reasons_and_stamps(self):
        store = Store()
        for place, (fact, reason) in enumerate([(("p", 1), TOLD), (("a",), BY), (("p", 0), OF)]):
            self.assertIs(store.hold(fact, reason), True)
            self.assertIs(store.has(fact), True)
            self.assertEqual(store.stamp(fact), place)
            self.assertEqual(store.reason(fact), reason)
        self.assertEqual(whole(store), [(("p", 1), TOLD, 0), (("a",), BY, 1), (("p", 0), OF, 2)])

    def test_a_fact_that_is_held_already(self):
        store = store_told(("p",), ("q",))
        self.assertIs(store.hold(("p",), BY), False)
        self.assertEqual(whole(store), [(("p",), TOLD, 0), (("q",), TOLD, 1)])
        self.assertIs(store.hold(("r",), BY), True)
        self.assertEqual(store.stamp(("r",)), 2)

    def test_nothing_of_what_is_handed_in_is_looked_at(self):
        store = Store()
        self.assertIs(store.hold(("p", "X", None), ("no", "reason")), True)
        self.assertIs(store.hold(("p", 1, 2, 3, 4, 5, 6), None), True)
        self.assertEqual(store.reason(("p", "X", None)), ("no", "reason"))
        self.assertEqual(store.held(), {"p": [("p", "X", None), ("p", 1, 2, 3, 4, 5, 6)]})

    def test_more_facts_than_a_program_may_have(self):
        store = store_told(*[("n", number) for number in range(300)])
        self.assertEqual(len(store.facts()), 300)

    def test_stores_are_their_own(self):
        one = store_told(("p",))
        self.assertEqual(Store().facts(), [])
        self.assertEqual(one.facts(), [("p",)])


class Dropping(unittest.TestCase):
    def test_the_reason_is_told_and_the_fact_is_gone(self):
        store = Store()
        store.hold(("p",), BY)
        store.hold(("q",), TOLD)
        self.assertEqual(store.drop(("p",)), BY)
        self.assertIs(store.has(("p",)), False)
        self.assertEqual(whole(store), [(("q",), TOLD, 1)])

    def test_drop_and_hold_again(self):
        store = store_told(("p",), ("q",), ("r",))
        store.drop(("p",))
        self.assertIs(store.hold(("p",), BY), True)
        self.assertEqual(whole(store), [(("q",), TOLD, 1), (("r",), TOLD, 2), (("p",), BY, 3)])
        store.drop(("p",))
        store.hold(("p",), OF)
        self.assertEqual(store.stamp(("p",)), 4)

    def test_no_stamp_comes_again(self):
        store = store_told(("p",))
        for stamp in range(5):
            self.assertEqual(store.stamp(("p",)), stamp)
            store.drop(("p",))
            store.hold(("p",), TOLD)

    def test_no_fact(self):
        store = store_told(("p",), ("q",))
        store.drop(("q",))
        for call in (store.drop, store.reason, store.stamp):
            for fact in [("q",), ("r",), ("p", 1)]:
                with self.subTest((call, fact)):
                    self.assertIs(refusal_of(call, fact), NoFact)
        self.assertEqual(whole(store), [(("p",), TOLD, 0)])


class Telling(unittest.TestCase):
    def test_facts_and_held_by_stamps(self):
        store = store_told(("q", 2), ("p", 1), ("q", 1), ("p",), ("r",))
        store.drop(("q", 2))
        store.drop(("r",))
        store.hold(("q", 2), TOLD)
        self.assertEqual(store.facts(), [("p", 1), ("q", 1), ("p",), ("q", 2)])
        self.assertEqual(store.held(), {"p": [("p", 1), ("p",)], "q": [("q", 1), ("q", 2)]})

    def test_only_names_that_have_some(self):
        store = store_told(("p",), ("q",))
        store.drop(("p",))
        self.assertEqual(store.held(), {"q": [("q",)]})
        store.drop(("q",))
        self.assertEqual(store.held(), {})

    def test_what_was_told_stays_and_may_be_changed(self):
        store = store_told(("p",), ("q",))
        facts = store.facts()
        held = store.held()
        store.drop(("p",))
        store.hold(("p", 1), TOLD)
        self.assertEqual(facts, [("p",), ("q",)])
        self.assertEqual(held, {"p": [("p",)], "q": [("q",)]})
        for told in (store.facts(), facts):
            told.append(("r",))
        told = store.held()
        told["q"].append(("q", 2))
        told["s"] = []
        self.assertEqual(store.facts(), [("q",), ("p", 1)])
        self.assertEqual(store.held(), {"q": [("q",)], "p": [("p", 1)]})


class Copying(unittest.TestCase):
    def test_a_store_of_its_own_with_the_same(self):
        store = Store()
        store.hold(("p",), BY)
        store.hold(("q",), TOLD)
        store.hold(("p", 1), OF)
        other = store.copied()
        self.assertIs(type(other), Store)
        self.assertEqual(whole(other), whole(store))

    def test_each_goes_its_own_way(self):
        store = store_told(("p",), ("q",))
        other = store.copied()
        other.drop(("p",))
        other.hold(("r",), BY)
        self.assertEqual(whole(store), [(("p",), TOLD, 0), (("q",), TOLD, 1)])
        store.drop(("q",))
        store.hold(("s",), OF)
        self.assertEqual(whole(other), [(("q",), TOLD, 1), (("r",), BY, 2)])
        self.assertEqual(whole(store), [(("p",), TOLD, 0), (("s",), OF, 2)])

    def test_the_next_stamp_is_the_others_next_one(self):
        store = store_told(("p",), ("q",), ("r",))
        store.drop(("r",))
        store.drop(("q",))
        other = store.copied()
        other.hold(("s",), TOLD)
        store.hold(("t",), TOLD)
        self.assertEqual(other.stamp(("s",)), 3)
        self.assertEqual(store.stamp(("t",)), 3)
        store.drop(("p",))
        store.drop(("t",))
        empty = store.copied()
        empty.hold(("p",), TOLD)
        self.assertEqual(whole(empty), [(("p",), TOLD, 4)])

    def test_the_order_behind_drops(self):
        store = store_told(("p",), ("q",), ("r",))
        store.drop(("p",))
        store.hold(("p",), TOLD)
        other = store.copied()
        self.assertEqual(other.facts(), [("q",), ("r",), ("p",)])
        self.assertEqual(other.held(), {"q": [("q",)], "r": [("r",)], "p": [("p",)]})


if __name__ == "__main__":
    unittest.main()
