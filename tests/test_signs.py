import unittest

from helper import odd_things, refusal_of
from whyfacts.errors import NoText
from whyfacts.signs import pieces_of

MARKS = "( ) , . : ? + -".split()
KEPT_WORDS = "has not less same plus if by is count sum least most why".split()
NO_SIGNS = [chr(number) for number in range(32) if chr(number) != "\n"]
NO_SIGNS += [chr(127), chr(128), chr(133), chr(160), "\xe9", "\xb2", "\u0660", "\u2028", "\u3000", "\ud800",
             "\U0001d7d8", "%"]
NO_PIECES = list("!\"#$&'*/;<=>@[\\]^_`{|}~")


def word(text):
    return ("word", text)


def free(text):
    return ("free", text)


def number(text):
    return ("number", text)


def mark(text):
    return ("mark", text)


class SignsTest(unittest.TestCase):
    def check(self, text, pieces):
        with self.subTest(text):
            told = pieces_of(text)
            self.assertEqual(told, pieces)
            self.assertIs(type(told), list)
            self.assertTrue(all(type(piece) is tuple for piece in told))

    def refuse(self, text):
        with self.subTest(ascii(text)):
            self.assertIs(refusal_of(pieces_of, text), NoText)


class Pieces(SignsTest):
    def test_each_kind(self):
        self.check("road", [word("road")])
        self.check("X", [free("X")])
        self.check("Xyz", [free("Xyz")])
        self.check("15", [number("15")])
        self.check("-15", [number("-15")])
        self.check("road(a, X, -5).", [word("road"), mark("("), word("a"), mark(","), free("X"), mark(","),
                                       number("-5"),
                                       mark(")"), mark(".")])
        self.check("load(X, T) if T is sum W by X: p.", [
            word("load"), mark("("), free("X"), mark(","), free("T"), mark(")"), word("if"), free("T"), word("is"),
            word("sum"), free("W"), word("by"), free("X"), mark(":"), word("p"), mark(".")])

    def test_each_mark(self):
        for sign in MARKS:
            self.check(sign, [mark(sign)])
            self.check(sign + sign, [mark(sign), mark(sign)])
            self.check(f"a{sign}b", [word("a"), mark(sign), word("b")])
            self.check(f"X {sign} 5", [free("X"), mark(sign), number("5")])
        self.check("(),.:?+-", [mark(sign) for sign in MARKS])

    def test_words_that_rules_use_are_words(self):
        for text in KEPT_WORDS:
            self.check(text, [word(text)])

    def test_lengths_of_words_and_free_words(self):
        self.check("a", [word("a")])
        self.check("abcdefgh", [word("abcdefgh")])
        self.check("Abcdefgh", [free("Abcdefgh")])
        self.check("zzzzzzzz Zzzzzzzz", [word("zzzzzzzz"), free("Zzzzzzzz")])
        for text in ["abcdefghi", "Abcdefghi", "a" * 1000, "A" + "a" * 1000, "a abcdefghi", "abcdefghi a",
                     "(abcdefghi)"]:
            self.refuse(text)

    def test_runs_that_are_neither(self):
        for text in ["aB", "AB", "aBc", "ABc", "AbC", "a5", "5a", "A5", "5A", "a5a", "X1", "roaD", "-5a", "-5A", "5a5",
                     "1X",
                     "a 5a", "5a a", "(a5)", "a5.", "1a(", "00a", "-1b2"]:
            self.refuse(text)


class Numbers(SignsTest):
    def test_figures(self):
        for text in ["0", "1", "5", "9", "10", "100", "909", "123456789", "999999999", "-1", "-10", "-999999999",
                     "-123456789"]:
            self.check(text, [number(text)])

    def test_what_is_no_number(self):
        for text in ["00", "05", "000", "0123", "01", "1234567890", "1000000000", "0000000001", "-0", "-00", "-05",
                     "-01",
                     "-1234567890", "-1000000000", "5 00", "a-0", "5-0", "--0", "(-0)", "1" * 5000]:
            self.refuse(text)

    def test_a_stroke_right_ahead_of_a_figure_begins_a_number(self):
        self.check("a-5", [word("a"), number("-5")])
        self.check("5-5", [number("5"), number("-5")])
        self.check("X-5", [free("X"), number("-5")])
        self.check("0-5", [number("0"), number("-5")])
        self.check(")-5(", [mark(")"), number("-5"), mark("(")])
        self.check("--5", [mark("-"), number("-5")])
        self.check("---5", [mark("-"), mark("-"), number("-5")])
        self.check("1-2-3", [number("1"), number("-2"), number("-3")])
        self.check("-5-5", [number("-5"), number("-5")])
        self.check("- -5", [mark("-"), number("-5")])
        self.check("abcdefgh-999999999", [word("abcdefgh"), number("-999999999")])

    def test_any_other_stroke_is_a_mark(self):
        self.check("- 5", [mark("-"), number("5")])
        self.check("-\n5", [mark("-"), number("5")])
        self.check("-a", [mark("-"), word("a")])
        self.check("-X", [mark("-"), free("X")])
        self.check("a-", [word("a"), mark("-")])
        self.check("5-", [number("5"), mark("-")])
        self.check("a-a", [word("a"), mark("-"), word("a")])
        self.check("5-a", [number("5"), mark("-"), word("a")])
        self.check("-(5)", [mark("-"), mark("("), number("5"), mark(")")])
        self.check("--", [mark("-"), mark("-")])


class Between(SignsTest):
    def test_nothing(self):
        for text in ["", " ", "\n", "   ", "\n\n", " \n \n  "]:
            self.check(text, [])

    def test_blanks_and_line_ends_part_runs(self):
        self.check("a b", [word("a"), word("b")])
        self.check("a\nb", [word("a"), word("b")])
        self.check("ab", [word("ab")])
        self.check("5 5", [number("5"), number("5")])
        self.check("55", [number("55")])
        self.check("a 5 X", [word("a"), number("5"), free("X")])
        self.check("X\nY", [free("X"), free("Y")])

    def test_as_many_as_there_are_anywhere(self):
        pieces = [word("road"), mark("("), word("a"), mark(","), number("-5"), mark(")"), mark(".")]
        self.check("road(a,-5).", pieces)
        for gap in [" ", "\n", "  ", "\n\n", " \n ", "\n   \n\n"]:
            self.check(gap.join(["", "road", "(", "a", ",", "-5", ")", ".", ""]), pieces)


class Refusals(SignsTest):
    def test_signs_that_are_not_allowed(self):
        for sign in NO_SIGNS:
            for text in [sign, sign + "a(b).", "a(" + sign + "b).", "a(b)." + sign, "a" + sign + "b", "5" + sign,
                         sign + " "]:
                self.refuse(text)

    def test_signs_that_belong_to_no_piece(self):
        for sign in NO_PIECES:
            for text in [sign, sign + "a(b).", "a(" + sign + "b).", "a(b)." + sign, "a" + sign + "b"]:
                self.refuse(text)

    def test_every_sign_is_one_or_the_other(self):
        for code in range(32, 127):
            sign = chr(code)
            allowed = sign == " " or sign in MARKS or sign.isalnum()
            with self.subTest(sign):
                self.assertIs(refusal_of(pieces_of, sign), None if allowed else NoText)

    def test_what_is_no_text(self):
        for thing in [None, True, False, 0, 5, -1, [], ["a"], (), ("a",), {}, {"a": "b"}, b"a", 1.5, [("word", "a")]]:
            self.refuse(thing)

    def test_things_of_any_kind(self):
        for place, thing in enumerate(odd_things()):
            with self.subTest(place):
                refusal = refusal_of(pieces_of, thing)
                self.assertIs(refusal, None if isinstance(thing, str) and not thing.strip() else NoText)

    def test_a_new_list_each_time(self):
        first = pieces_of("a.")
        first.append(mark("."))
        self.assertEqual(pieces_of("a."), [word("a"), mark(".")])


if __name__ == "__main__":
    unittest.main()
