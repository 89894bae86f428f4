import copy
import itertools
import random
import unittest

from helper import held_in, numbers, refusal_of
from whyfacts.bodies import fills_of, grounds_of
from whyfacts.errors import TooMany
from whyfacts.reading import read_body


def body_in(text):
    return read_body(text)


def says(part, fill, held):
    """What a part says, filled, told straight from the document."""
    terms = [fill.get(term, term) for term in (part[1][1:] if part[0] in ("has", "not") else part[1:])]
    if part[0] in ("has", "not"):
        return ((part[1][0],) + tuple(terms) in held.get(part[1][0], [])) == (part[0] == "has")
    if part[0] == "same":
        return terms[0] == terms[1]
    if not all(isinstance(term, int) for term in terms[:2]):
        return False
    if part[0] == "less":
        return terms[0] < terms[1]
    return abs(terms[0] + terms[1]) <= 999999999 and terms[0] + terms[1] == terms[2]


def places_of(body, fill, held):
    """Where the facts of the has parts stand in their lists: the order of the fills."""
    facts = [(part[1][0],) + tuple(fill.get(term, term) for term in part[1][1:]) for part in body if part[0] == "has"]
    return [held[fact[0]].index(fact) for fact in facts]


def all_fills(body, words, values, held):
    tries = [dict(zip(words, row)) for row in itertools.product(values, repeat=len(words))]
    good = [fill for fill in tries if all(says(part, fill, held) for part in body)]
    return sorted(good, key=lambda fill: places_of(body, fill, held))


class Fills(unittest.TestCase):
    def check(self, body, held, fills):
        with self.subTest((body, held)):
            ahead = copy.deepcopy(held)
            told = fills_of(body_in(body), held)
            self.assertEqual([pair[0] for pair in told], fills)
            self.assertEqual([pair[1] for pair in told], [grounds_of(body_in(body), fill) for fill in fills])
            self.assertIs(type(told), list)
            self.assertTrue(all(type(pair) is tuple and len(pair) == 2 for pair in told))
            self.assertEqual(held, ahead)

    def test_one_has(self):
        held = held_in("road(b, c). road(a, b). road(a, a).")
        self.check("road(X, Y).", held, [{"X": "b", "Y": "c"}, {"X": "a", "Y": "b"}, {"X": "a", "Y": "a"}])
        self.check("road(a, Y).", held, [{"Y": "b"}, {"Y": "a"}])
        self.check("road(X, X).", held, [{"X": "a"}])
        self.check("road(a, b).", held, [{}])
        self.check("road(c, b).", held, [])

    def test_a_name_that_is_not_there(self):
        self.check("rain.", {}, [])
        self.check("road(X, Y).", held_in("rain."), [])
        self.check("rain, road(X, Y).", held_in("rain."), [])
        self.check("road(X, Y), rain.", held_in("rain."), [])
        self.check("not road(a, b).", {}, [{}])
        self.check("rain, not rain.", {}, [])
        self.check("rain.", {"rain": []}, [])

    def test_facts_of_another_width(self):
        held = held_in("p. p(a). p(a, b). p(c).")
        self.check("p(X).", held, [{"X": "a"}, {"X": "c"}])
        self.check("p.", held, [{}])
        self.check("p(X, Y).", held, [{"X": "a", "Y": "b"}])
        self.check("p(X, Y, Z).", held, [])
        self.check("p(X), not p(X, b).", held, [{"X": "c"}])
        self.check("p(X), p(X, Y).", held, [{"X": "a", "Y": "b"}])

    def test_tests_alone(self):
        self.check("less(1, 2).", {}, [{}])
        self.check("less(2, 1).", {}, [])
        self.check("same(a, a), plus(1, 2, X), plus(X, X, Y).", {}, [{"X": 3, "Y": 6}])
        self.check("plus(1, 2, X), less(X, 3).", {}, [])

    def test_a_not_alone(self):
        self.check("not rain.", {}, [{}])
        self.check("not rain.", held_in("rain."), [])
        self.check("not rain.", held_in("rain(a). sun."), [{}])
        self.check("not rain, not sun.", held_in("sun."), [])

    def test_each_kind_of_part(self):
        held = held_in("n(1). n(2). n(a). n(3). shut(2).")
        self.check("n(X), not shut(X).", held, [{"X": 1}, {"X": "a"}, {"X": 3}])
        self.check("n(X), less(X, 3).", held, [{"X": 1}, {"X": 2}])
        self.check("n(X), same(X, a).", held, [{"X": "a"}])
        self.check("n(X), plus(X, 1, Y).", held, [{"X": 1, "Y": 2}, {"X": 2, "Y": 3}, {"X": 3, "Y": 4}])
        self.check("n(X), plus(X, 1, Y), n(Y).", held, [{"X": 1, "Y": 2}, {"X": 2, "Y": 3}])
        self.check("n(X), n(Y), plus(X, 1, Y).", held, [{"X": 1, "Y": 2}, {"X": 2, "Y": 3}])

    def test_the_order_over_two_has(self):
        held = held_in("p(b). p(a). q(2). q(1).")
        self.check("p(X), q(Y).", held, [{"X": "b", "Y": 2}, {"X": "b", "Y": 1}, {"X": "a", "Y": 2},
                                         {"X": "a", "Y": 1}])
        self.check("q(Y), p(X).", held, [{"X": "b", "Y": 2}, {"X": "a", "Y": 2}, {"X": "b", "Y": 1},
                                         {"X": "a", "Y": 1}])

    def test_the_order_over_three_has(self):
        held = held_in("p(2). p(1).")
        told = fills_of(body_in("p(X), p(Y), p(Z)."), held)
        self.assertEqual([(fill["X"], fill["Y"], fill["Z"]) for fill, grounds in told],
                         list(itertools.product((2, 1), repeat=3)))

    def test_the_order_of_facts_that_share_words(self):
        held = held_in("road(c, a). road(a, c). road(a, b). road(b, c). road(c, b).")
        self.check("road(X, Y), road(Y, X).", held,
                   [{"X": "c", "Y": "a"}, {"X": "a", "Y": "c"}, {"X": "b", "Y": "c"}, {"X": "c", "Y": "b"}])
        self.check("road(a, Y), road(Y, Z).", held, [{"Y": "c", "Z": "a"}, {"Y": "c", "Z": "b"}, {"Y": "b", "Z": "c"}])

    def test_the_same_part_twice(self):
        held = held_in("p(b). p(a).")
        self.check("p(X), p(X).", held, [{"X": "b"}, {"X": "a"}])
        self.assertEqual(fills_of(body_in("p(b), p(b)."), held), [({}, (("has", ("p", "b")), ("has", ("p", "b"))))])

    def test_numbers_and_names_are_never_the_same(self):
        held = {"p": [("p", 1), ("p", "a")], "q": [("q", "a"), ("q", 1)]}
        self.check("p(X), q(X).", held, [{"X": 1}, {"X": "a"}])

    def test_against_all_fills_there_are(self):
        rng = random.Random(16)
        values = ["a", "b", 0, 1, 2]
        for turn in range(150):
            facts = [("p", one) for one in values] + [("q", one, other) for one in values for other in values]
            rng.shuffle(facts)
            held = {}
            for fact in facts[:rng.randint(0, 20)]:
                held.setdefault(fact[0], []).append(fact)
            body = (("has", ("q", "X", rng.choice(["Y", "X", 1]))),)
            more = [("has", ("p", "X")), ("has", ("q", "X", "Z")), ("not", ("p", "X")), ("not", ("q", "X", "X")),
                    ("less", "X", 2),
                    ("same", "X", "a"), ("plus", "X", 1, "Z"), ("plus", "X", "X", "X"), ("has", ("q", "Z", "X"))]
            body += tuple(rng.sample(more, rng.randint(0, 3)))
            words = sorted({term for part in body for term in str(part).split("'") if term in ("X", "Y", "Z")})
            with self.subTest(turn):
                self.assertEqual([fill for fill, grounds in fills_of(body, held)],
                                 all_fills(body, words, values + [3], held))

    def test_what_is_told_may_be_changed(self):
        held = held_in("p(a). p(b).")
        for body in ["p(X).", "not q.", "p(X), not q.", "p(X), same(X, X)."]:
            first = fills_of(body_in(body), held)
            again = copy.deepcopy(first)
            for fill, grounds in first:
                fill["X"] = "c"
            first.clear()
            self.assertEqual(fills_of(body_in(body), held), again)


class Grounds(unittest.TestCase):
    def test_of_each_kind_of_part(self):
        body = body_in("road(X, b, X), not shut(Y, 5), less(Z, 3), same(X, a), plus(Z, 1, W), rain.")
        self.assertEqual(grounds_of(body, {"X": "a", "Y": -1, "Z": 1, "W": 2}), (
            ("has", ("road", "a", "b", "a")), ("not", ("shut", -1, 5)), ("less", 1, 3), ("same", "a", "a"),
            ("plus", 1, 1, 2),
            ("has", ("rain",))))

    def test_whatever_the_parts_say(self):
        body = body_in("p(X), less(X, 3), same(X, Y), plus(X, Y, Z).")
        self.assertEqual(grounds_of(body, {"X": 9, "Y": "a", "Z": "b"}),
                         (("has", ("p", 9)), ("less", 9, 3), ("same", 9, "a"), ("plus", 9, "a", "b")))

    def test_of_the_fills_of_a_body(self):
        held = held_in("road(a, b). n(1).")
        self.assertEqual(fills_of(body_in("road(X, Y), n(N), less(N, 3), not shut(X), plus(N, N, M)."), held), [
            ({"X": "a", "Y": "b", "N": 1, "M": 2},
             (("has", ("road", "a", "b")), ("has", ("n", 1)), ("less", 1, 3), ("not", ("shut", "a")),
              ("plus", 1, 1, 2)))])

    def test_kinds(self):
        told = grounds_of(body_in("p(X), not q, less(X, 1)."), {"X": 0})
        self.assertIs(type(told), tuple)
        self.assertTrue(all(type(ground) is tuple for ground in told))

    def test_what_is_handed_in_stays(self):
        fill = {"X": 1, "Y": 2}
        grounds_of(body_in("p(X)."), fill)
        self.assertEqual(fill, {"X": 1, "Y": 2})

    def test_more_parts_than_a_body_may_have(self):
        self.assertEqual(len(grounds_of(body_in("p(X).") * 9, {"X": 1})), 9)


class TooManyFills(unittest.TestCase):
    def check(self, body, held, refusal):
        with self.subTest(body):
            ahead = copy.deepcopy(held)
            self.assertIs(refusal_of(fills_of, body_in(body), held), refusal)
            self.assertEqual(held, ahead)

    def test_of_one_part(self):
        self.assertEqual(len(fills_of(body_in("n(X)."), numbers("n", 2000))), 2000)
        self.check("n(X).", numbers("n", 2001), TooMany)
        self.check("n(X).", numbers("n", 5000), TooMany)

    def test_of_two_parts(self):
        held = {**numbers("n", 50), **numbers("m", 40), **numbers("k", 41)}
        self.assertEqual(len(fills_of(body_in("n(X), m(Y)."), held)), 2000)
        self.check("n(X), k(Y).", held, TooMany)
        self.check("k(Y), n(X).", held, TooMany)

    def test_where_a_later_part_leaves_fewer_or_none(self):
        held = {**numbers("n", 2001), **numbers("m", 46), "one": [("one", 1)]}
        for body in ["n(X), same(X, 1).", "n(X), one(X).", "n(X), less(X, 0).", "n(X), not n(X).", "n(X), none(X).",
                     "m(X), m(Y), same(X, Y).",
                     "m(X), m(Y), none.", "m(X), m(Y), m(X), same(1, 2).", "one(Z), m(X), m(Y), one(X)."]:
            self.check(body, held, TooMany)

    def test_where_an_earlier_part_leaves_fewer_or_none(self):
        held = {**numbers("n", 2001), **numbers("m", 46), "one": [("one", 1)]}
        for body in ["one(X), n(X).", "none, n(X).", "same(1, 2), n(X).", "m(X), less(X, 40), m(Y).",
                     "plus(1, 1, X), n(X).", "not one(1), n(X)."]:
            self.check(body, held, None)

    def test_bounds_of_2000_at_each_step(self):
        held = {**numbers("n", 2000), **numbers("two", 2)}
        self.check("n(X), n(X), n(X).", held, None)
        self.check("n(X), two(Y).", held, TooMany)
        self.check("n(X), less(X, 1000), two(Y).", held, None)
        self.check("n(X), less(X, 1001), two(Y).", held, TooMany)


if __name__ == "__main__":
    unittest.main()
