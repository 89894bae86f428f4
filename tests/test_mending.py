import copy
import unittest

from helper import TOLD, by, facts_in, has, of, refusal_of, rules_in, store_of, store_with, whole
from whyfacts.errors import TooMany
from whyfacts.mending import layer_mended

RULES = rules_in("""
    way(X, Y) if road(X, Y), not shut(X).
    way(X, Z) if way(X, Y), road(Y, Z), not shut(Y).
    many(N) if N is count: road(X, Y).
    b if a.
    c if b.
    b if d.
""")


class MendingTest(unittest.TestCase):
    def mended(self, store, numbers, told="", gone="", came="", untold="", most=100, rules=RULES):
        handed = [rules, numbers, facts_in(told), facts_in(gone), facts_in(came), facts_in(untold), most]
        ahead = copy.deepcopy(handed)
        pair = layer_mended(store, *handed)
        self.assertEqual(handed, ahead)
        self.assertIs(type(pair), tuple)
        self.assertTrue(all(type(part) is list for part in pair))
        return pair


class Mending(MendingTest):
    def test_nothing(self):
        store = store_with("x. y.")
        before = whole(store)
        self.assertEqual(self.mended(store, []), ([], []))
        self.assertEqual(self.mended(store, [3, 4]), ([], []))
        self.assertEqual(whole(store), before)

    def test_told_ones_are_held_in_order(self):
        store = store_with("x.")
        self.assertEqual(self.mended(store, [], told="p(a). p(2). z. p. p(-1). a. a."),
                         ([], [("a",), ("p",), ("p", -1), ("p", 2), ("p", "a"), ("z",)]))
        self.assertEqual(whole(store)[1:], [(("a",), TOLD, 1), (("p",), TOLD, 2), (("p", -1), TOLD, 3),
                                            (("p", 2), TOLD, 4),
                                            (("p", "a"), TOLD, 5), (("z",), TOLD, 6)])

    def test_told_ones_that_are_held_keep_their_reason(self):
        store = store_of((("a",), TOLD), (("b",), by(3, has("a"))))
        before = whole(store)
        self.assertEqual(self.mended(store, [3], told="b. a."), ([], []))
        self.assertEqual(whole(store), before)

    def test_what_follows_comes_in_order(self):
        store = store_with("d.")
        self.assertEqual(self.mended(store, [3, 4, 5], told="zz. a."), ([], [("a",), ("b",), ("c",), ("zz",)]))
        self.assertEqual(whole(store), [(("d",), TOLD, 0), (("a",), TOLD, 1), (("zz",), TOLD, 2),
                                        (("b",), by(3, has("a")), 3),
                                        (("c",), by(4, has("b")), 4)])

    def test_what_is_broken_is_dropped(self):
        store = store_of((("a",), TOLD), (("x",), TOLD), (("b",), by(3, has("a"))), (("c",), by(4, has("b"))))
        self.assertEqual(self.mended(store, [3, 4, 5], untold="a."), ([("a",), ("b",), ("c",)], []))
        self.assertEqual(whole(store), [(("x",), TOLD, 1)])

    def test_what_was_dropped_is_told_by_stamps(self):
        store = store_of((("z",), TOLD), (("m",), TOLD), (("a",), TOLD), (("x",), TOLD))
        self.assertEqual(self.mended(store, [], untold="a. m. z."), ([("z",), ("m",), ("a",)], []))

    def test_what_is_dropped_and_held_anew(self):
        store = store_of((("a",), TOLD), (("d",), TOLD), (("b",), by(3, has("a"))), (("c",), by(4, has("b"))),
                         (("x",), TOLD))
        self.assertEqual(self.mended(store, [3, 4, 5], untold="a."), ([("a",), ("b",), ("c",)], []))
        self.assertEqual(whole(store), [(("d",), TOLD, 1), (("x",), TOLD, 4), (("b",), by(5, has("d")), 5),
                                        (("c",), by(4, has("b")), 6)])

    def test_a_told_one_whose_reason_breaks_is_held_as_told(self):
        store = store_of((("a",), TOLD), (("b",), by(3, has("a"))), (("c",), by(4, has("b"))))
        self.assertEqual(self.mended(store, [3, 4, 5], told="b.", untold="a."), ([("a",), ("b",), ("c",)], []))
        self.assertEqual(whole(store), [(("b",), TOLD, 3), (("c",), by(4, has("b")), 4)])

    def test_a_told_one_that_is_taken_and_still_follows(self):
        store = store_of((("a",), TOLD), (("b",), TOLD))
        self.assertEqual(self.mended(store, [3, 4, 5], told="a.", untold="b."), ([("b",)], [("c",)]))
        self.assertEqual(whole(store), [(("a",), TOLD, 0), (("b",), by(3, has("a")), 2), (("c",), by(4, has("b")), 3)])

    def test_dropped_and_new_ones_together(self):
        store = store_of((("road", "a", "b"), TOLD), (("shut", "c"), TOLD), (("road", "c", "d"), TOLD),
                         (("way", "a", "b"), by(0, has("road", "a", "b"), ("not", ("shut", "a")))))
        store.drop(("shut", "c"))
        store.hold(("shut", "a"), TOLD)
        self.assertEqual(self.mended(store, [0, 1], gone="shut(c).", came="shut(a)."),
                         ([("way", "a", "b")], [("way", "c", "d")]))
        self.assertEqual(whole(store)[3:], [(("way", "c", "d"), by(0, has("road", "c", "d"), ("not", ("shut", "c"))),
                                             5)])

    def test_facts_of_layers_beneath(self):
        store = store_of((("road", "b", "c"), TOLD), (("many", 2),
                                                      of(2, (), (has("road", "a", "b"),), (has("road", "b", "c"),))))
        self.assertEqual(self.mended(store, [2], gone="road(a, b)."), ([("many", 2)], [("many", 1)]))
        self.assertEqual(whole(store)[1:], [(("many", 1), of(2, (), (has("road", "b", "c"),)), 2)])
        store.hold(("road", "a", "b"), TOLD)
        self.assertEqual(self.mended(store, [2], came="road(a, b)."), ([("many", 1)], [("many", 2)]))

    def test_a_has_that_was_dropped_beneath_and_is_held_anew(self):
        store = store_of((("road", "a", "b"), TOLD), (("shut", "x"), TOLD))
        self.mended(store, [0, 1, 2])
        self.assertEqual(store.stamp(("many", 1)), 2)
        self.assertEqual(self.mended(store, [0, 1, 2], gone="road(a, b)."), ([("many", 1), ("way", "a", "b")], []))
        self.assertEqual(whole(store)[2:], [
            (("many", 1), of(2, (), (has("road", "a", "b"),)), 4),
            (("way", "a", "b"), by(0, has("road", "a", "b"), ("not", ("shut", "a"))), 5)])

    def test_other_heads_stay(self):
        store = store_of((("b",), by(3, has("a"))), (("c",), by(4, has("b"))))
        self.assertEqual(self.mended(store, [3], gone="a."), ([("b",)], []))
        self.assertEqual(whole(store), [(("c",), by(4, has("b")), 1)])

    def test_what_is_told_may_be_changed(self):
        store = store_with("")
        pair = self.mended(store, [3, 4], told="a.")
        pair[0].append(("x",))
        pair[1].clear()
        self.assertEqual(store.facts(), [("a",), ("b",), ("c",)])


class TooManyFacts(MendingTest):
    def check(self, store, refusal, numbers, told, most, untold="", gone=""):
        handed = [RULES, numbers, facts_in(told), facts_in(gone), [], facts_in(untold), most]
        with self.subTest(handed):
            self.assertIs(refusal_of(layer_mended, store, *handed), refusal)

    def test_told_ones(self):
        self.check(store_with("x."), None, [], "a. b. c.", 4)
        self.check(store_with("x."), TooMany, [], "a. b. c.", 3)
        self.check(store_with("x."), TooMany, [], "a.", 0)
        self.check(store_with("a. b. c."), None, [], "a. b. c. c.", 2)

    def test_what_follows(self):
        self.check(store_with("x."), None, [3, 4], "a.", 4)
        self.check(store_with("x."), TooMany, [3, 4], "a.", 3)
        self.check(store_with("x."), TooMany, [2, 3, 4], "road(a, b). a.", 5)
        self.check(store_with("x."), None, [2, 3, 4], "road(a, b). a.", 6)

    def test_more_are_held_and_nothing_comes(self):
        self.check(store_with("a. b. c. x. y."), None, [3, 4], "a. b.", 1)
        self.check(store_with("a. b. c. x. y."), None, [3, 4], "", 0)
        self.check(store_with("a. b. x. y."), TooMany, [3, 4], "", 3)

    def test_what_is_dropped_makes_room(self):
        self.check(store_with("x. y. z."), None, [3, 4], "a.", 3, untold="x. y. z.")
        self.check(store_with("x. y. z."), None, [3, 4], "a.", 4, untold="x. y.")
        self.check(store_with("x. y. z."), TooMany, [3, 4], "a.", 3, untold="x. y.")

    def test_too_many_though_a_told_one_would_follow_anyway(self):
        self.check(store_with("a."), TooMany, [3], "b. c.", 2)

    def test_too_many_fills(self):
        rules = rules_in("p if n(X), n(Y), same(X, Y).")
        told = [("n", number) for number in range(45)]
        self.assertIs(refusal_of(layer_mended, store_with(""), rules, [0], told, [], [], [], 1000), TooMany)
        self.assertIs(refusal_of(layer_mended, store_with(""), rules, [0], told[:44], [], [], [], 1000), None)


if __name__ == "__main__":
    unittest.main()
