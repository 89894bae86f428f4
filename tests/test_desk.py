import unittest

from helper import odd_things, refusal_of
from whyfacts.desk import Desk
from whyfacts.errors import BadRule, BadWidth, NoText, Ringed, TooMany, Unbound

WAYS = """
way(X, Y) if road(X, Y), not shut(X).
way(X, Z) if way(X, Y), road(Y, Z).
many(N) if N is count: way(X, Y).
road(a, b). road(b, c).
"""


class DeskTest(unittest.TestCase):
    def check(self, desk, line, *rows):
        with self.subTest(line):
            told = desk.say(line)
            self.assertEqual(told, list(rows))
            self.assertIs(type(told), list)


class Making(DeskTest):
    def test_a_text_without_rules_and_facts(self):
        for text in ["", " \n "]:
            desk = Desk(text)
            self.check(desk, "? p(X).", "no")
            self.check(desk, "+ p(1).", "+ p(1).")
            self.check(desk, "? p(X).", "X = 1")

    def test_facts_are_put_at_once_also_where_there_are_none(self):
        desk = Desk("p if not q. r(X) if plus(1, 2, X).")
        self.check(desk, "? p, r(X).", "X = 3")
        self.check(desk, "why p.", "1 p: by 0 from not q")
        self.check(Desk("rain. rain. sun."), "? rain, sun.", "yes")

    def test_refusals_in_their_order(self):
        for text, refusal in [
            ("p", NoText), ("p if not p. q", NoText), ("p(X).", NoText), ("p if q(1, 2, 3, 4, 5).", NoText),
            ("q(1, p) p if not p.", NoText),
            ("p if q. " * 21, TooMany), ("p if not p. " * 21, TooMany), ("p(X) if q.", Unbound),
            ("p if not p. p(X) if q.", Unbound),
            ("p if not p(1).", BadWidth), ("p if q. r if q(1). s if not s.", BadWidth), ("p if not p.", Ringed),
            ("p if not p. p(1).", Ringed),
            ("p if q. p(1).", BadWidth), ("p if q. q. q(1).", BadWidth), ("p(1). p if q.", BadWidth),
            (" ".join(f"n({number})." for number in range(201)), TooMany),
            ("n(Y) if n(X), plus(X, 1, Y). n(0).", TooMany),
            ("p(X) if N is count: q(X).", Unbound),
        ]:
            with self.subTest(text):
                self.assertIs(refusal_of(Desk, text), refusal)

    def test_what_is_no_text(self):
        for place, thing in enumerate([None, 5, [], ["p."], ("p",), {}] + odd_things()):
            if not isinstance(thing, str):
                with self.subTest(place):
                    self.assertIs(refusal_of(Desk, thing), NoText)
        self.assertIsNot(refusal_of(Desk, "p if q."), BadRule)


class Changes(DeskTest):
    def test_rows_of_what_came_and_went(self):
        desk = Desk(WAYS)
        self.check(desk, "+ shut(b).", "+ many(2).", "+ shut(b).", "- many(3).", "- way(b, c).")
        self.check(desk, "- shut(b).", "+ many(3).", "+ way(b, c).", "- many(2).", "- shut(b).")
        self.check(desk, "- road(a, b).", "+ many(1).", "- many(3).", "- road(a, b).", "- way(a, b).", "- way(a, c).")
        self.check(desk, "+ load(c, -5).", "+ load(c, -5).")
        self.check(desk, "+ rain.", "+ rain.")

    def test_nothing(self):
        desk = Desk(WAYS)
        self.check(desk, "+ road(a, b).", "nothing")
        self.check(desk, "- road(b, a).", "nothing")
        self.check(desk, "- way(a, b).", "nothing")
        self.check(desk, "+ way(a, b).", "nothing")
        self.check(desk, "- way(a, b).", "nothing")

    def test_blanks_and_line_ends_behind_the_one_blank(self):
        desk = Desk("")
        self.check(desk, "+  p ( 1 ,\n a ) . \n", "+ p(1, a).")
        self.check(desk, "+ \np.", "+ p.")
        self.check(desk, "- p(1,a).", "- p(1, a).")
        self.check(desk, "-    p\n.", "- p.")

    def test_refused_changes_change_nothing(self):
        desk = Desk("m(X) if n(X), not off. off. " + " ".join(f"n({number})." for number in range(101)))
        for line, row in [("+ n(1, 2).", "bad width"), ("- n.", "bad width"), ("- off.", "too many"),
                          ("+ n(X).", "no text"), ("- off", "no text")]:
            self.check(desk, line, row)
            self.check(desk, "? off, n(100), not m(1).", "yes")
        self.check(desk, "- n(0).", "- n(0).")
        self.assertEqual(len(desk.say("- off.")), 101)
        self.check(desk, "+ x.", "too many")


class Questions(DeskTest):
    def test_answers(self):
        desk = Desk(WAYS)
        self.check(desk, "? way(a, X), not shut(X).", "X = b", "X = c")
        self.check(desk, "? way(X, Y).", "X = a, Y = b", "X = a, Y = c", "X = b, Y = c")
        self.check(desk, "? road(Y, X), many(N), plus(N, -5, Z).", "Y = a, X = b, N = 3, Z = -2",
                   "Y = b, X = c, N = 3, Z = -2")
        self.check(desk, "? plus(1, 2, Sum).", "Sum = 3")

    def test_yes_and_no(self):
        desk = Desk(WAYS)
        self.check(desk, "? way(a, c).", "yes")
        self.check(desk, "? way(a, c), less(1, 2), not shut(a).", "yes")
        self.check(desk, "? way(c, a).", "no")
        self.check(desk, "? way(c, X).", "no")
        self.check(desk, "? not way(c, a).", "yes")
        self.check(desk, "? less(2, 1).", "no")

    def test_blanks_and_line_ends(self):
        desk = Desk(WAYS)
        self.check(desk, "?   way ( a ,\nX ) , not\nshut(X) .\n\n", "X = b", "X = c")
        self.check(desk, "? way(a,X),not shut(X).", "X = b", "X = c")

    def test_refusals(self):
        desk = Desk(WAYS + " ".join(f"n({number})." for number in range(46)))
        self.check(desk, "? not shut(X).", "unbound")
        self.check(desk, "? way(a, X), less(Y, X).", "unbound")
        self.check(desk, "? n(X), n(Y), same(X, Y).", "too many")
        self.check(desk, "? n(X), n(Y), n(X), not n(X).", "too many")
        self.check(desk, "? way(a, X)", "no text")
        self.check(desk, "? n, n, n, n, n, n, n.", "no text")

    def test_a_width_that_differs_from_the_rules(self):
        desk = Desk(WAYS)
        self.check(desk, "? way(a).", "no")
        self.check(desk, "? way(X).", "no")
        self.check(desk, "? road(X, Y, Z).", "no")
        self.check(desk, "? not way(a).", "yes")
        self.check(desk, "why way(a).", "no fact")
        self.check(desk, "+ way(a).", "bad width")
        self.check(desk, "- way(a).", "bad width")

    def test_the_same_question_again(self):
        desk = Desk(WAYS)
        for line in ["? way(a, X).", "why way(a, c).", "? many(3).", "why none.", "? shut(X).", "+ road(a, b)."]:
            first = desk.say(line)
            kept = list(first)
            first.append("more")
            self.check(desk, line, *kept)
            self.check(desk, line, *kept)


class Whys(DeskTest):
    def test_rows_of_reasons(self):
        desk = Desk(WAYS)
        self.check(desk, "why road(a, b).", "1 road(a, b): told")
        self.check(desk, "why way(a, c).", "1 road(a, b): told", "2 road(b, c): told",
                   "3 way(a, b): by 0 from 1, not shut(a)",
                   "4 way(a, c): by 1 from 3, 2")
        self.check(desk, "why many(3).", "1 road(a, b): told", "2 road(b, c): told",
                   "3 way(a, b): by 0 from 1, not shut(a)",
                   "4 way(b, c): by 0 from 2, not shut(b)", "5 way(a, c): by 1 from 3, 2",
                   "6 many(3): of 2 from 3; 4; 5")
        self.check(desk, "why  road(a,b)\n.", "1 road(a, b): told")

    def test_no_fact(self):
        desk = Desk(WAYS)
        for line in ["why way(c, a).", "why many(2).", "why shut(a).", "why x(1, 2, 3, 4)."]:
            self.check(desk, line, "no fact")
        desk.say("- road(b, c).")
        self.check(desk, "why way(a, c).", "no fact")

    def test_no_text(self):
        desk = Desk(WAYS)
        for line in ["why way(a, X).", "why way(a, b)", "why", "why ", "why way(a, b), road(a, b).", "why not shut(a).",
                     "why why(a)."]:
            self.check(desk, line, "no text")


class Lines(DeskTest):
    def test_lines_that_are_none(self):
        desk = Desk("rain.")
        for line in ["", " ", "+", "-", "?", "+ ", "? ", "+rain.", "-rain.", "?rain.", " + rain.", "\n+ rain.", "rain.",
                     "rain", "+\nrain.", "?\nrain.",
                     "why\nrain.", "whyrain.", "Why rain.", "? .", "+ .", "+ rain", "+ rain. rain.", "+ rain, sun.",
                     "+ p if q.", "? p if q.",
                     "++ rain.", "+ + rain.", "- - rain.", "! rain.", "= rain.", "how rain.", "+\train.", "+ rain.\t",
                     "+ ra\tin.", "+ 5.", "+ -5.",
                     "+ X.", "+ not rain.", "+ has.", "? has.", "? N is count: rain.", "+ rain. % more", "+ rain(). ",
                     "? rain. sun.", "\u00a0+ rain.",
                     "+\u00a0rain.", "- 5.", "-5.", "-5 rain.", "is rain.", "put rain.", ". rain."]:
            self.check(desk, line, "no text")
        self.check(desk, "? rain, not sun.", "yes")

    def test_lines_of_any_kind(self):
        desk = Desk("rain.")
        for line in [None, True, 5, [], ["? rain."], ("? rain.",), {}, b"? rain."] + odd_things():
            with self.subTest():
                self.assertEqual(desk.say(line), ["no text"])
        self.check(desk, "? rain.", "yes")

    def test_desks_are_their_own(self):
        one, other = Desk("p if q."), Desk("p if q.")
        self.check(one, "+ q.", "+ p.", "+ q.")
        self.check(other, "? q.", "no")


if __name__ == "__main__":
    unittest.main()
