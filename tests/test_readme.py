"""What README.md shows is so."""

import ast
import pathlib
import unittest

from helper import TOLD, by, has

README = pathlib.Path(__file__).resolve().parent.parent / "README.md"


def told_by(code):
    """What each call by itself tells, one behind the other."""
    names = {}
    told = []
    for node in ast.parse(code).body:
        if isinstance(node, ast.Expr):
            told.append(eval(ast.unparse(node), names))
        else:
            exec(ast.unparse(node), names)
    return told


class Readme(unittest.TestCase):
    def test_what_it_shows(self):
        blocks = README.read_text(encoding="utf-8").split("```")[1::2]
        desk, tuples = [block[len("python"):] for block in blocks if block.startswith("python")]
        self.assertEqual(told_by(desk), [
            ["X = b", "X = c"],
            ["1 road(a, b): told", "2 road(b, c): told", "3 way(a, b): by 0 from 1, not shut(a)",
             "4 way(a, c): by 1 from 3, 2"],
            ["+ many(2).", "+ shut(b).", "- many(3).", "- way(b, c)."],
            ["nothing"]])
        self.assertEqual(told_by(tuples), [
            ([("rain", "a"), ("wet", "a")], []),
            [(("rain", "a"), TOLD), (("wet", "a"), by(0, has("rain", "a"), ("not", ("roof", "a"))))],
            ([], [("rain", "a"), ("wet", "a")]),
            []])


if __name__ == "__main__":
    unittest.main()
