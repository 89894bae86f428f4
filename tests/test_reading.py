import unittest

from helper import odd_things, refusal_of
from whyfacts.errors import NoText
from whyfacts.reading import read_body, read_fact, read_program

KEPT_WORDS = "has not less same plus if by is count sum least most why".split()
ROAD = ("has", ("road", "X", "Y"))


class ReadingTest(unittest.TestCase):
    def check(self, text, rules, facts):
        with self.subTest(text):
            told = read_program(text)
            self.assertEqual(told, (rules, facts))
            self.assertIs(type(told), tuple)
            self.assertIs(type(told[0]), list)
            self.assertIs(type(told[1]), list)

    def check_rule(self, text, rule):
        self.check(text, [rule], [])

    def check_fact(self, text, fact):
        self.check(text, [], [fact])
        with self.subTest(text):
            self.assertEqual(read_fact(text), fact)

    def check_body(self, text, body):
        self.check_rule("p if " + text, ("rule", ("p",), body))
        with self.subTest(text):
            self.assertEqual(read_body(text), body)

    def refuse(self, *texts):
        for text in texts:
            with self.subTest(text):
                self.assertIs(refusal_of(read_program, text), NoText)

    def refuse_fact(self, *texts):
        for text in texts:
            with self.subTest(text):
                self.assertIs(refusal_of(read_fact, text), NoText)

    def refuse_body(self, *texts):
        for text in texts:
            with self.subTest(text):
                self.assertIs(refusal_of(read_body, text), NoText)


class Facts(ReadingTest):
    def test_facts(self):
        self.check_fact("road(a, b).", ("road", "a", "b"))
        self.check_fact("rain.", ("rain",))
        self.check_fact("load(c, -5).", ("load", "c", -5))
        self.check_fact("n(0).", ("n", 0))
        self.check_fact("n(999999999, -999999999).", ("n", 999999999, -999999999))
        self.check_fact("abcdefgh(abcdefgh).", ("abcdefgh", "abcdefgh"))

    def test_numbers_are_whole_ones(self):
        self.assertEqual([type(term) for term in read_fact("p(1, -1, a, 0).")], [str, int, int, str, int])

    def test_widths(self):
        self.check_fact("p(1).", ("p", 1))
        self.check_fact("p(1, b, 3).", ("p", 1, "b", 3))
        self.check_fact("p(1, b, 3, d).", ("p", 1, "b", 3, "d"))
        self.refuse("p(1, b, 3, d, 5).", "p(1, b, 3, d, 5, 6).", "p if q(1, 2, 3, 4, 5).", "p if not q(1, 2, 3, 4, 5).",
                    "p(A, B, C, D, E) if q(A, B, C, D).")
        self.refuse_fact("p(1, b, 3, d, 5).")
        self.refuse_body("p(1, b, 3, d, 5).", "p, not q(A, B, C, D, E).")

    def test_names_that_tell_rules_elsewhere(self):
        self.check("rule(a, b). gather. rule.", [], [("rule", "a", "b"), ("gather",), ("rule",)])
        self.check("gather(rule) if rule(gather).", [("rule", ("gather", "rule"), (("has", ("rule", "gather")),))], [])

    def test_free_words_make_no_fact(self):
        self.refuse("road(a, X).", "road(X).", "rain. road(X, b).", "p(1, 2, 3, X).")
        self.refuse_fact("road(a, X).", "p(X).", "X.")

    def test_a_stroke_without_a_blank_ahead(self):
        self.refuse("load(c-5).", "load-5.", "load(-).", "load(- 5).", "load(--5).", "load(-a).", "load(+5).")
        self.check_fact("load(c,-5).", ("load", "c", -5))
        self.check_fact("load(-5,-5).", ("load", -5, -5))


class Rules(ReadingTest):
    def test_plain_rules(self):
        self.check_rule("way(X, Z) if way(X, Y), road(Y, Z).",
                        ("rule", ("way", "X", "Z"), (("has", ("way", "X", "Y")), ("has", ("road", "Y", "Z")))))
        self.check_rule("wet if rain.", ("rule", ("wet",), (("has", ("rain",)),)))
        self.check_rule("wet(1, a, X, Xy) if not rain.", ("rule", ("wet", 1, "a", "X", "Xy"), (("not", ("rain",)),)))

    def test_parts(self):
        self.check_body("less(X, 3).", (("less", "X", 3),))
        self.check_body("same(X, Y).", (("same", "X", "Y"),))
        self.check_body("plus(X, 1, Y).", (("plus", "X", 1, "Y"),))
        self.check_body("road(X, Y).", (ROAD,))
        self.check_body("not shut(X).", (("not", ("shut", "X")),))
        self.check_body("not shut.", (("not", ("shut",)),))
        self.check_body("way(a, X), not shut(X).", (("has", ("way", "a", "X")), ("not", ("shut", "X"))))
        self.check_body("p(a, 1), not q, less(a, -5), same(1, b), plus(1, 2, a), r.", (
            ("has", ("p", "a", 1)), ("not", ("q",)), ("less", "a", -5), ("same", 1, "b"), ("plus", 1, 2, "a"),
            ("has", ("r",))))

    def test_lengths_of_bodies(self):
        self.check_body("p.", (("has", ("p",)),))
        self.check_body("p, p, p, p, p, p.", (("has", ("p",)),) * 6)
        self.refuse("h if p, p, p, p, p, p, p.", "h if N is count: p, p, p, p, p, p, p.", "h if .", "h if.")
        self.refuse_body("p, p, p, p, p, p, p.", "less(1, 2), p, p, p, p, p, not p.", ".", "", " ")

    def test_tests_with_other_numbers_of_terms(self):
        for bad in ["less(X)", "less(X, Y, Z)", "same(X)", "same(X, Y, Z)", "plus(X, Y)", "plus(X, Y, Z, W)", "less",
                    "same",
                    "plus", "less()", "less(1, 2, 3, 4, 5)", "plus(1)"]:
            self.refuse(f"p if {bad}.")
            self.refuse_body(f"{bad}.", f"p, {bad}.")

    def test_parts_of_another_form(self):
        for bad in ["has p", "has(p)", "not", "not not p", "not less(1, 2)", "not same(1, 1)", "not plus(1, 1, 2)",
                    "not X",
                    "X", "5", "p q", "p(a) q", "p: q", "p is q", "p by X", "p if q", "(p)", "not(p)", "p + q", "? p",
                    "- p"]:
            self.refuse(f"p if {bad}.")
            self.refuse_body(f"{bad}.", f"p, {bad}.", f"{bad}, p.")

    def test_unbound_words_and_widths_are_no_matter_of_reading(self):
        self.check_rule("p(X) if q(Y), q.", ("rule", ("p", "X"), (("has", ("q", "Y")), ("has", ("q",)))))
        self.check_rule("p if not q(Y), less(Y, Z).", ("rule", ("p",), (("not", ("q", "Y")), ("less", "Y", "Z"))))
        self.check_rule("p if not p.", ("rule", ("p",), (("not", ("p",)),)))
        self.check("p. " * 30 + "p if p. " * 30, [("rule", ("p",), (("has", ("p",)),))] * 30, [("p",)] * 30)


class Gathers(ReadingTest):
    def test_those_of_the_document(self):
        self.check_rule("load(X, T) if T is sum W by X: road(X, Y, W).",
                        ("gather", ("load", "X", "T"), "sum", "T", "W", ("X",), (("has", ("road", "X", "Y", "W")),)))
        self.check_rule("many(N) if N is count: road(X, Y).", ("gather", ("many", "N"), "count", "N", "", (), (ROAD,)))

    def test_each_kind_with_none_to_three_keys(self):
        body = "p(A, B, C, W), less(A, B)"
        parts = (("has", ("p", "A", "B", "C", "W")), ("less", "A", "B"))
        for kind, shown, value in [("count", "count", ""), ("sum", "sum W", "W"), ("least", "least W", "W"),
                                   ("most", "most W", "W")]:
            for keys in [(), ("A",), ("B", "A"), ("C", "A", "B")]:
                by = " by " + ", ".join(keys) if keys else ""
                self.check_rule(f"g(N) if N is {shown}{by}: {body}.",
                                ("gather", ("g", "N"), kind, "N", value, keys, parts))

    def test_keys(self):
        self.refuse("g if N is count by A, B, C, D: p(A, B, C, D).", "g if N is count by A, A: p(A).",
                    "g if N is count by A, B, A: p(A, B).", "g if N is sum W by W, W: p(W).", "g if N is count by: p.",
                    "g if N is count by A,: p(A).", "g if N is count by a: p(a).", "g if N is count by 1: p(1).",
                    "g if N is count by A B: p(A, B).", "g if N is count A: p(A).", "g if N is count by (A): p(A).")

    def test_values(self):
        self.refuse("g if N is count W: p(W).", "g if N is count W by X: p(W, X).", "g if N is sum: p(W).",
                    "g if N is sum by W: p(W).", "g if N is least: p(W).", "g if N is most by W: p(W).",
                    "g if N is sum w: p(w).",
                    "g if N is sum 5: p(5).", "g if N is sum W, V: p(W, V).", "g if N is sum W V: p(W, V).")

    def test_the_result_in_the_body(self):
        self.refuse("g(N) if N is count: p(N).", "g(N) if N is sum W: p(W), not q(N).",
                    "g if N is most W: p(W), less(1, N).",
                    "g if N is count: plus(1, 2, N).", "g if N is count by N: p(N).")
        self.check_rule("g(N) if N is count by N: p(X).", ("gather", ("g", "N"), "count", "N", "", ("N",),
                                                           (("has", ("p", "X")),)))
        self.check_rule("g(N) if N is sum N: p(n).", ("gather", ("g", "N"), "sum", "N", "N", (),
                                                      (("has", ("p", "n")),)))

    def test_other_forms(self):
        self.refuse("g if N is: p.", "g if N: p.", "g if N count: p.", "g if is count: p.", "g if n is count: p.",
                    "g if 5 is count: p.",
                    "g if N is count p.", "g if N is count.", "g if N is count:.", "g if N is count: .",
                    "g if N is many: p.",
                    "g if N is many W: p(W).", "g if N is has W by W: p(W).", "g if N is X W: p(W).",
                    "g if N is - W: p(W).",
                    "g if N is Count: p.", "g if N is count, p.", "g if N is has: p.", "g if N is 5: p.", "g if N is .",
                    "g if N.",
                    "N is count: p.", "g if p, N is count: q.", "g if N is count: p: q.",
                    "g if N is count: M is count: q.")
        self.refuse_body("N is count: p.")

    def test_words_that_are_unbound_are_no_matter_of_reading(self):
        self.check_rule("g(Z) if N is sum W by X: p.", ("gather", ("g", "Z"), "sum", "N", "W", ("X",),
                                                        (("has", ("p",)),)))


class Programs(ReadingTest):
    def test_no_rows(self):
        for text in ["", " ", "\n", " \n\n "]:
            self.check(text, [], [])

    def test_rules_and_facts_in_any_order(self):
        wet = ("rule", ("wet",), (("has", ("rain",)),))
        dry = ("rule", ("dry",), (("not", ("rain",)),))
        self.check("rain. wet if rain. sun. dry if not rain. rain.", [wet, dry], [("rain",), ("sun",), ("rain",)])
        self.check("dry if not rain. wet if rain. wet if rain.", [dry, wet, wet], [])
        self.check("b. a. b(1). a(2).", [], [("b",), ("a",), ("b", 1), ("a", 2)])

    def test_points(self):
        self.refuse("rain", "rain. sun", "rain sun.", "rain..", ".", ". rain.", "rain. . sun.", "wet if rain",
                    "wet if rain..",
                    "wet if rain. rain", "wet. if rain.", "rain, sun.", "rain; sun.", "many(N) if N is count: p")
        self.refuse_fact("rain", "rain..", ". rain.", ".")

    def test_brackets_and_commas(self):
        self.refuse("p().", "p( ).", "p(.", "p).", "p(a.", "p a).", "p(a,).", "p(,a).", "p(a,,b).", "p(,).", "p(a b).",
                    "p((a)).",
                    "p(a)(b).", "(a).", "p(a, b)).", "p(a(b)).", "p(a: b).", "p(a. b).", "h if p,.", "h if ,p.",
                    "h if p,,q.",
                    "h if p q.", "h if p(.", "h() if p.", "h if p().", "h if less(,).", "h if less(1,).",
                    "h if not p().")

    def test_heads(self):
        self.refuse("X if p.", "5 if p.", "not p if q.", "not p.", "less(1, 2).", "less(1, 2) if p.", "same(1, 1).",
                    "plus(1, 1, 2).",
                    "p, q if r.", "if p.", "p if if q.", "p if q if r.", "-5.", "- p.", "+ p.", "? p.", "p?")

    def test_kept_words_where_a_name_should_stand(self):
        for word in KEPT_WORDS:
            self.refuse(f"{word}.", f"{word}(a).", f"{word} if p.", f"{word}(X) if p(X).", f"p if {word}.",
                        f"p if not {word}.",
                        f"p if not {word}(a).", f"{word}(X) if N is count by X: p(X).", f"p if N is count: {word}.")
            self.refuse_fact(f"{word}.", f"{word}(a, b).")
            self.refuse_body(f"{word}.", f"not {word}(a).")

    def test_kept_words_as_values(self):
        for word in KEPT_WORDS:
            self.refuse(f"p({word}).", f"p(a, {word}).", f"p({word}) if q.", f"p if q({word}).", f"p if not q({word}).",
                        f"p if less({word}, 1).", f"p if same(1, {word}).", f"p if plus(1, 1, {word}).")
            self.refuse_fact(f"p({word}).")
            self.refuse_body(f"p({word}).", f"same(a, {word}).")

    def test_blanks_and_line_ends_between_any_two_pieces(self):
        pieces = ["load", "(", "X", ",", "T", ")", "if", "T", "is", "sum", "W", "by", "X", ",", "Y", ":", "road", "(",
                  "X", ",", "Y",
                  ",", "W", ")", ",", "not", "shut", "(", "X", ",", "-5", ")", ",", "less", "(", "W", ",", "9", ")",
                  ".", "rain", "."]
        rule = ("gather", ("load", "X", "T"), "sum", "T", "W", ("X", "Y"),
                (("has", ("road", "X", "Y", "W")), ("not", ("shut", "X", -5)), ("less", "W", 9)))
        for gap in [" ", "\n", "   ", "\n\n", " \n "]:
            self.check(gap.join(pieces), [rule], [("rain",)])
            self.check(gap + gap.join(pieces) + gap, [rule], [("rain",)])
        self.check("load(X,T)if T is sum W by X,Y:road(X,Y,W),not shut(X,-5),less(W,9).rain.", [rule], [("rain",)])

    def test_texts_that_end_too_early(self):
        for text in ["load ( X , T ) if T is sum W by X , Y : road ( X , Y , W ) , not shut ( X , -5 ) , less ( W , 9 ) .",
                     "wet if rain .", "road ( a , b ) .", "p if plus ( 1 , X , Y ) , not q ."]:
            pieces = text.split()
            for many in range(1, len(pieces)):
                self.refuse(" ".join(pieces[:many]))
                self.refuse_fact(" ".join(pieces[:many]))
                self.refuse_body(" ".join(pieces[:many]))
            self.assertIs(refusal_of(read_program, text), None)

    def test_a_blank_is_needed_between_words(self):
        self.refuse("wetif rain.", "h if N iscount: p.", "h if Nis count: p.", "h if N is sumW: p(W).",
                    "h if N is sum Wby X: p(W, X).")
        self.check_body("notshut.", (("has", ("notshut",)),))
        self.check("wet ifrain.rain.".replace("ifrain", "if rain"), [("rule", ("wet",), (("has", ("rain",)),))],
                   [("rain",)])
        self.refuse("wet ifrain.")

    def test_signs_and_runs(self):
        self.refuse("road(a,\tb).", "rain.\r\n", "# rain\nrain.", "rain. % more", "road(a1).", "road(05).", "road(-0).",
                    "abcdefghi.", "p(Abcdefghi) if q.", "p(1234567890).", "p('a').", "p(_).", "p(1.5).",
                    "p(AB) if q(AB).")

    def test_what_is_no_text(self):
        things = [None, True, 5, [], ["rain."], ("rain", "."), {}, b"rain.", ("rain",)] + odd_things()
        for place, thing in enumerate(things):
            if isinstance(thing, str) and not thing.strip():
                continue
            with self.subTest(place):
                for read in (read_program, read_fact, read_body):
                    self.assertIs(refusal_of(read, thing), NoText)

    def test_new_lists_each_time(self):
        first = read_program("wet if rain. rain.")
        first[0].clear()
        first[1].clear()
        self.check("wet if rain. rain.", [("rule", ("wet",), (("has", ("rain",)),))], [("rain",)])


class FactsAndBodies(ReadingTest):
    def test_one_fact_alone(self):
        self.refuse_fact("", " ", "\n", "rain", "rain. sun.", "rain. rain.", "rain, sun.", "wet if rain.",
                         "rain. wet if rain.",
                         "not rain.", "less(1, 2).", "rain. .", "rain.a", "?rain.", "+ rain.", "N is count: p.")
        self.assertEqual(read_fact("\n road ( a ,\n b ) . \n"), ("road", "a", "b"))

    def test_one_body_alone(self):
        self.refuse_body("", " ", "\n", "p", "p. q.", "p. p.", "p, q", "p if q.", "p, q if r.", "p. .", "p.q", "?p.",
                         "p, .", "if p.")
        self.assertEqual(read_body(" p ,\nnot q\n( X ) .\n"), (("has", ("p",)), ("not", ("q", "X"))))

    def test_a_body_is_a_tuple_of_tuples(self):
        body = read_body("p(X), not q(X), plus(X, 1, Y).")
        self.assertIs(type(body), tuple)
        self.assertTrue(all(type(part) is tuple for part in body))
        self.assertIs(type(body[0][1]), tuple)


if __name__ == "__main__":
    unittest.main()
