import copy
import unittest

from helper import TOLD, by, has, of, refusal_of, some_worked, store_of, whole
from whyfacts.errors import NoFact
from whyfacts.reading import read_program
from whyfacts.whys import height_of, leaves_of, rests_on, why_of
from whyfacts.working import worked


def worked_in(text):
    rules, told = read_program(text)
    return worked(rules, told)


def beneath(store, fact):
    """All on which a fact rests, straight from the document."""
    found = set()
    for other in rests_on(store.reason(fact)):
        found |= {other} | beneath(store, other)
    return found


def slow_height(row, fact):
    names = rests_on(dict(row)[fact])
    return 1 + max(slow_height(row, other) for other in names) if names else 1


class RestsOn(unittest.TestCase):
    def check(self, reason, facts):
        with self.subTest(reason):
            told = rests_on(reason)
            self.assertEqual(told, facts)
            self.assertIs(type(told), list)

    def test_told(self):
        self.check(TOLD, [])

    def test_a_by(self):
        self.check(by(0, has("q", 1)), [("q", 1)])
        self.check(by(3, has("q", 1), ("not", ("r", 1)), ("less", 1, 2), has("p"), ("same", 1, 1), ("plus", 1, 1, 2)),
                   [("q", 1), ("p",)])
        self.check(by(0, ("not", ("r",)), ("less", 1, 2)), [])
        self.check(by(0, has("b"), has("a"), has("b"), has("b", 1)), [("b",), ("a",), ("b", 1)])

    def test_an_of(self):
        self.check(of(0, (), (has("q", 1),), (has("q", 2),)), [("q", 1), ("q", 2)])
        self.check(of(1, ("a",), (has("z"), ("not", ("r",)), has("q", 2)), (has("z"), ("less", 1, 2), has("q", 1)),
                      (has("q", 2),)),
                   [("z",), ("q", 2), ("q", 1)])
        self.check(of(1, (), (("not", ("r",)),)), [])

    def test_as_many_grounds_as_there_are(self):
        self.check(by(0, *[has("n", number) for number in range(20)]), [("n", number) for number in range(20)])
        self.check(by(0), [])
        self.check(of(0, ()), [])
        self.check(of(99, (1, 2, 3, 4), (), (has("a"),)), [("a",)])

    def test_a_new_list_each_time(self):
        reason = by(0, has("q"))
        rests_on(reason).clear()
        self.assertEqual(rests_on(reason), [("q",)])


class WhyOf(unittest.TestCase):
    def test_a_told_fact(self):
        store = store_of((("p",), TOLD), (("q",), TOLD))
        self.assertEqual(why_of(store, ("p",)), [(("p",), TOLD)])
        self.assertEqual(why_of(store, ("q",)), [(("q",), TOLD)])

    def test_several_steps_each_once_by_stamps(self):
        store = store_of(
            (("z",), TOLD), (("x",), TOLD), (("a",), TOLD), (("m",), by(0, has("a"), has("z"))),
            (("k",), by(1, has("z"), ("not", ("a", 1)))),
            (("b",), by(2, has("m"), has("k"), has("z"))), (("c",), by(3, has("x"))))
        self.assertEqual(why_of(store, ("b",)), [
            (("z",), TOLD), (("a",), TOLD), (("m",), by(0, has("a"), has("z"))),
            (("k",), by(1, has("z"), ("not", ("a", 1)))),
            (("b",), by(2, has("m"), has("k"), has("z")))])
        self.assertEqual(why_of(store, ("c",)), [(("x",), TOLD), (("c",), by(3, has("x")))])
        self.assertEqual(why_of(store, ("k",)), [(("z",), TOLD), (("k",), by(1, has("z"), ("not", ("a", 1))))])

    def test_an_of(self):
        store = worked_in("g(N) if N is count: p(X), r. big if g(N), less(1, N). p(2). p(1). p(a). r. s.")
        every = of(0, (), (has("p", 1), has("r")), (has("p", 2), has("r")), (has("p", "a"), has("r")))
        self.assertEqual(why_of(store, ("big",)), [
            (("p", 1), TOLD), (("p", 2), TOLD), (("p", "a"), TOLD), (("r",), TOLD), (("g", 3), every),
            (("big",), by(1, has("g", 3), ("less", 1, 3)))])

    def test_behind_a_drop_and_a_new_hold(self):
        store = store_of((("a",), TOLD), (("b",), TOLD), (("c",), by(0, has("a"), has("b"))))
        store.drop(("c",))
        store.drop(("a",))
        store.hold(("a",), by(1, has("b")))
        store.hold(("c",), by(0, has("a"), has("b")))
        self.assertEqual(why_of(store, ("c",)), [(("b",), TOLD), (("a",), by(1, has("b"))),
                                                 (("c",), by(0, has("a"), has("b")))])

    def test_no_fact(self):
        store = store_of((("a",), TOLD), (("b",), by(0, has("a"))))
        store.drop(("b",))
        for fact in [("b",), ("c",), ("a", 1)]:
            self.assertIs(refusal_of(why_of, store, fact), NoFact)

    def test_a_long_chain(self):
        pairs = [(("n", 0), TOLD)] + [(("n", number), by(0, has("n", number - 1))) for number in range(1, 3000)]
        row = why_of(store_of(*pairs), ("n", 2999))
        self.assertEqual(row, pairs)
        self.assertEqual(height_of(row), 3000)

    def test_the_store_stays_and_the_row_may_be_changed(self):
        store = store_of((("a",), TOLD), (("b",), by(0, has("a"))))
        ahead = whole(store)
        row = why_of(store, ("b",))
        again = list(row)
        row.clear()
        self.assertEqual(whole(store), ahead)
        self.assertEqual(why_of(store, ("b",)), again)
        kept = why_of(store, ("b",))
        store.drop(("b",))
        self.assertEqual(kept, again)

    def test_over_many_programs(self):
        for turn, rules, told, store in some_worked(22, 150):
            for fact in store.facts():
                with self.subTest((turn, fact)):
                    row = why_of(store, fact)
                    self.assertEqual(row[-1][0], fact)
                    self.assertEqual([one for one, reason in row],
                                     sorted(beneath(store, fact), key=store.stamp) + [fact])
                    self.assertEqual([reason for one, reason in row], [store.reason(one) for one, reason in row])
                    self.assertEqual(height_of(row), slow_height(row, fact))


class Heights(unittest.TestCase):
    def check(self, row, height):
        with self.subTest(row):
            ahead = copy.deepcopy(row)
            self.assertEqual(height_of(row), height)
            self.assertEqual(row, ahead)

    def test_reasons_without_a_has(self):
        self.check([(("a",), TOLD)], 1)
        self.check([(("a",), by(0, ("not", ("b",)), ("less", 1, 2)))], 1)
        self.check([(("a",), of(0, (), (("not", ("b",)),)))], 1)

    def test_several_has_of_unlike_heights(self):
        a, b = (("a",), TOLD), (("b",), by(0, has("a")))
        c = (("c",), by(1, has("b"), has("a")))
        self.check([a, b], 2)
        self.check([a, b, c], 3)
        self.check([a, b, c, (("d",), by(2, has("a"), has("c"), has("b")))], 4)
        self.check([a, b, c, (("d",), of(2, (), (has("a"),), (has("b"),)))], 3)
        self.check([a, b, c, (("d",), of(2, (), (has("a"),), (has("c"),), (has("b"),)))], 4)

    def test_facts_on_which_the_last_one_does_not_rest(self):
        a, b, c = (("a",), TOLD), (("b",), by(0, has("a"))), (("c",), by(1, has("b")))
        self.check([a, b, c, (("d",), TOLD)], 1)
        self.check([a, b, c, (("d",), by(2, has("a")))], 2)
        self.check([(("z",), by(5, has("y"))), a, (("d",), by(2, has("a")))], 2)


class Leaves(unittest.TestCase):
    def test_told_facts_in_order(self):
        row = [(("p", "a"), TOLD), (("q",), TOLD), (("p", 5), TOLD), (("p",), TOLD), (("x",), by(0, has("p"))),
               (("a",), TOLD),
               (("b",), of(1, (), (has("x"),)))]
        ahead = list(row)
        told = leaves_of(row)
        self.assertEqual(told, [("a",), ("p",), ("p", 5), ("p", "a"), ("q",)])
        self.assertIs(type(told), list)
        told.clear()
        self.assertEqual(row, ahead)

    def test_none(self):
        self.assertEqual(leaves_of([(("a",), by(0, ("not", ("b",))))]), [])

    def test_one(self):
        self.assertEqual(leaves_of([(("a",), TOLD)]), [("a",)])


if __name__ == "__main__":
    unittest.main()
