import copy
import unittest

from helper import held_in, numbers, odd_things, refusal_of
from whyfacts.asking import answers_of
from whyfacts.errors import BadRule, TooMany, Unbound
from whyfacts.reading import read_body


def asked(text, held):
    return answers_of(read_body(text), held)


class Answers(unittest.TestCase):
    HELD = held_in("road(b, c). road(a, b). road(a, 5). road(10, a). road(9, a). road(a, -3). shut(c). n(2). n(1).")

    def check(self, text, answers):
        with self.subTest(text):
            told = asked(text, self.HELD)
            self.assertEqual(told, answers)
            self.assertIs(type(told), list)
            self.assertTrue(all(type(answer) is tuple and all(type(pair) is tuple for pair in answer) for answer in told))

    def test_numbers_ahead_of_names(self):
        self.check("road(a, X).", [(("X", -3),), (("X", 5),), (("X", "b"),)])
        self.check("road(X, Y).", [(("X", 9), ("Y", "a")), (("X", 10), ("Y", "a")), (("X", "a"), ("Y", -3)),
                                   (("X", "a"), ("Y", 5)),
                                   (("X", "a"), ("Y", "b")), (("X", "b"), ("Y", "c"))])

    def test_words_as_they_first_come_in_the_body(self):
        self.check("road(Y, X), not shut(X), road(Z, Y).", [
            (("Y", "a"), ("X", -3), ("Z", 9)), (("Y", "a"), ("X", -3), ("Z", 10)), (("Y", "a"), ("X", 5), ("Z", 9)),
            (("Y", "a"), ("X", 5), ("Z", 10)), (("Y", "a"), ("X", "b"), ("Z", 9)), (("Y", "a"), ("X", "b"), ("Z", 10))])
        self.check("n(Z), plus(Z, 1, A).", [(("Z", 1), ("A", 2)), (("Z", 2), ("A", 3))])
        self.check("n(B), n(A), less(A, B).", [(("B", 2), ("A", 1))])

    def test_a_word_twice_is_told_once(self):
        self.check("n(X), n(X), road(a, Y), same(Y, 5).", [(("X", 1), ("Y", 5)), (("X", 2), ("Y", 5))])

    def test_without_free_words(self):
        self.check("road(a, b).", [()])
        self.check("road(a, b), not shut(a), less(1, 2).", [()])
        self.check("road(b, a).", [])
        self.check("not shut(c).", [])
        self.check("not none.", [()])

    def test_no_answers(self):
        self.check("road(c, X).", [])
        self.check("none(X).", [])
        self.check("n(X), less(X, 0).", [])

    def test_other_widths(self):
        self.check("road(X).", [])
        self.check("n(X, Y), road(X, Y).", [])

    def test_over_nothing(self):
        self.assertEqual(asked("p(X).", {}), [])
        self.assertEqual(asked("plus(1, 2, X).", {}), [(("X", 3),)])

    def test_what_is_handed_in_stays_and_what_is_told_may_be_changed(self):
        held = held_in("p(2). p(1).")
        ahead = copy.deepcopy(held)
        first = asked("p(X).", held)
        first.clear()
        self.assertEqual(held, ahead)
        self.assertEqual(asked("p(X).", held), [(("X", 1),), (("X", 2),)])


class Refusals(unittest.TestCase):
    def check(self, body, refusal, held=None):
        with self.subTest():
            self.assertIs(refusal_of(answers_of, body, held or {}), refusal)

    def test_what_is_no_body(self):
        for body in [None, (), [], "p(X).", ("has", ("p",)), [("has", ("p",))], (("has", ["p"]),),
                     (("has", ("p",)),) * 7, (("more", 1, 2),)]:
            self.check(body, BadRule)
        for thing in odd_things():
            self.check(thing, BadRule)
            self.check((thing,), BadRule)
            self.check((("has", ("p", "X")), thing), BadRule)

    def test_unbound(self):
        for text in ["not p(X).", "less(X, 1).", "p(X), same(X, Y).", "plus(X, 1, Y).", "not p(X), p(X)."]:
            self.check(read_body(text), Unbound)

    def test_too_many(self):
        self.check(read_body("n(X)."), None, numbers("n", 2000))
        self.check(read_body("n(X)."), TooMany, numbers("n", 2001))
        self.check(read_body("n(X), same(X, 1)."), TooMany, numbers("n", 2001))

    def test_their_order(self):
        self.check((("less", "X", 1), ("more",)), BadRule, numbers("n", 2001))
        self.check(read_body("n(X), less(X, Y)."), Unbound, numbers("n", 2001))


if __name__ == "__main__":
    unittest.main()
