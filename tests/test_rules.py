import copy
import unittest

from helper import odd_things, refusal_of
from whyfacts.errors import BadRule, BadWidth, TooMany, Unbound
from whyfacts.forms import need_rules

RAIN = ("has", ("rain",))
ROAD = ("has", ("road", "X", "Y", "W"))
WET = ("rule", ("wet",), (RAIN,))
WAY = ("rule", ("way", "X", "Y"), (ROAD, ("not", ("shut", "X")), ("less", "W", 9)))
LOAD = ("gather", ("load", "X", "T"), "sum", "T", "W", ("X",), (ROAD,))
MANY = ("gather", ("many", "N"), "count", "N", "", (), (ROAD,))
BAD = ("rule", ("wet",), ())
UNBOUND = ("rule", ("wet", "X"), (RAIN,))
HEAD, KIND, RESULT, VALUE, KEYS, BODY = 1, 2, 3, 4, 5, 6


def changed(rule, place, field):
    return rule[:place] + (field,) + rule[place + 1:]


def gather(kind="count", value="", keys=(), head=("g", "N"), body=(ROAD,), result="N"):
    return ("gather", head, kind, result, value, keys, body)


class RulesTest(unittest.TestCase):
    def check(self, rules, refusal):
        with self.subTest(rules):
            self.assertIs(refusal_of(need_rules, rules), refusal)

    def check_each(self, rules, refusal):
        for rule in rules:
            self.check([rule], refusal)


class GoodRules(RulesTest):
    def test_the_rules_in_a_new_list(self):
        rules = [WET, WAY, LOAD, MANY, WET]
        told = need_rules(rules)
        self.assertEqual(told, [WET, WAY, LOAD, MANY, WET])
        self.assertIs(type(told), list)
        self.assertIsNot(told, rules)
        rules.append(BAD)
        self.assertEqual(told, [WET, WAY, LOAD, MANY, WET])
        told.clear()
        self.assertEqual(rules, [WET, WAY, LOAD, MANY, WET, BAD])

    def test_no_rules(self):
        rules = []
        self.assertEqual(need_rules(rules), [])
        self.assertIsNot(need_rules(rules), rules)

    def test_up_to_twenty_rules(self):
        self.assertEqual(need_rules([WET] * 20), [WET] * 20)
        self.check([WET] * 21, TooMany)
        self.check([WET] * 100, TooMany)

    def test_too_many_is_refused_ahead_of_what_the_rules_are(self):
        self.check([None] * 21, TooMany)
        self.check([BAD] + [UNBOUND] * 20, TooMany)
        self.check([None] * 20, BadRule)

    def test_plain_rules(self):
        self.check_each([
            ("rule", ("p",), (RAIN,)), ("rule", ("p",), (RAIN,) * 6),
            ("rule", ("p", 1, "a", -5, "b"), (("not", ("q",)),)),
            ("rule", ("p", "X", "X"), (ROAD,)), ("rule", ("p", "W", "Y", "X"), (ROAD,)),
            ("rule", ("p", "Z"), (ROAD, ("plus", "W", 1, "Z"))), ("rule", ("p", "Z"), (("plus", 1, 2, "Z"),)),
            ("rule", ("p", "X"), (("has", ("p", "X")),)), ("rule", ("p",), (("not", ("p",)),)),
        ], None)

    def test_gathers(self):
        self.check_each([
            gather(), gather("sum", "W"), gather("least", "W"), gather("most", "W"), gather("sum", "X", ("X", "Y")),
            gather(keys=("X", "Y", "W")), gather(keys=("Y",), head=("g", "Y", "N", "Y", 1)), gather(head=("g",)),
            gather(head=("g", 1, "a")), gather(keys=("X",), head=("g", "X")), gather(keys=("X",), head=("g",)),
            gather("sum", "Z", ("Z",), ("g", "N", "Z"), (ROAD, ("plus", "W", 1, "Z"))),
            gather(body=(RAIN,)), gather(body=(("less", 1, 2),)), gather(result="Abcdefgh", head=("g", "Abcdefgh")),
        ], None)

    def test_what_is_handed_in_stays_as_it_was(self):
        handed = [[WET, WAY, LOAD], [WET, BAD], [UNBOUND], [WET] * 21, [WET, ["rule", ["p"], [["has", ["q"]]]]],
                  [WET, ("rule", ("wet", 1), (RAIN,))], [gather(keys=["X"])], [gather(body=[ROAD])], {"a": [1]}]
        for rules in handed:
            with self.subTest(rules):
                ahead = copy.deepcopy(rules)
                refusal_of(need_rules, rules)
                self.assertEqual(rules, ahead)


class NoRules(RulesTest):
    def test_what_is_no_list(self):
        for rules in [(), (WET,), (WET, WAY), WET, {}, {0: WET}, "", "rules", 5, range(2), iter([WET]), {WET},
                      (WET,) * 21]:
            self.check(rules, BadRule)

    def test_things_of_any_kind(self):
        for place, thing in enumerate(odd_things()):
            with self.subTest(place):
                self.assertIs(refusal_of(need_rules, thing), BadRule)
                self.assertIs(refusal_of(need_rules, [thing]), BadRule)
                self.assertIs(refusal_of(need_rules, [WET, thing]), BadRule)
                self.assertIs(refusal_of(need_rules, [(thing, ("wet",), (RAIN,))]), BadRule)

    def test_things_of_any_kind_in_each_field(self):
        # The empty text is the value of a count, and the empty tuple is keys: these alone are left out here.
        empty = {VALUE: str, KEYS: tuple}
        for rule in (WAY, LOAD, MANY):
            for field in range(len(rule)):
                for place, thing in enumerate(odd_things()):
                    if isinstance(thing, empty.get(field, ())) and len(thing) == 0:
                        continue
                    with self.subTest(rule=rule, field=field, place=place):
                        self.assertIs(refusal_of(need_rules, [changed(rule, field, thing)]), BadRule)

    def test_words_ahead_and_lengths(self):
        self.check_each([
            (), ("rule",), ("gather",), WET[:2], WET + ((),), WET + (RAIN,), LOAD[:3], LOAD[:6], LOAD + ((),),
            LOAD + ((ROAD,),), ("gather",) + WET[1:], ("rule",) + LOAD[1:], changed(WET, 0, "Rule"),
            changed(WET, 0, ""),
            changed(WET, 0, None), changed(WET, 0, "rules"), changed(LOAD, 0, "gathers"), changed(LOAD, 0, "sum"),
            list(WET), list(LOAD), "rule", ("wet",), RAIN, (WET,), [WET],
        ], BadRule)

    def test_heads(self):
        heads = ["wet", "X", "", (), None, ["wet"], ("Wet",), ("has",), ("wet", True), ("wet", ""), ("wet", "XY"),
                 ("w", 1, 2, 3, 4, 5), (("wet",),), ("wet", ("a",)), ("wet", 1000000000)]
        self.check_each([changed(rule, HEAD, head) for rule in (WET, LOAD, MANY) for head in heads], BadRule)

    def test_bodies(self):
        bodies = [(), (RAIN,) * 7, [RAIN], RAIN, (("rain",),), (["has", ("rain",)],), (RAIN, ("more", 1, 2)), None,
                  (RAIN, ("less", 1)), (RAIN, ("has", ["rain"])), "rain", (RAIN, ("not", ("w", 1, 2, 3, 4, 5)))]
        self.check_each([changed(WET, 2, body) for body in bodies], BadRule)
        self.check_each([changed(MANY, BODY, body) for body in bodies], BadRule)

    def test_kinds(self):
        kinds = ["", "Sum", "SUM", "total", "min", "su", "sums", None, 0, True, ["sum"], ("sum",), {}, "has", "count "]
        self.check_each([changed(LOAD, KIND, kind) for kind in kinds], BadRule)
        self.check_each([changed(MANY, KIND, kind) for kind in kinds], BadRule)

    def test_results(self):
        results = ["", "t", "total", "TT", 1, None, True, ["T"], ("T",), "Abcdefghi", "T ", "T1"]
        self.check_each([changed(LOAD, RESULT, result) for result in results], BadRule)
        self.check_each([changed(MANY, RESULT, result) for result in results], BadRule)

    def test_values_of_a_count(self):
        values = ["W", "X", "N", " ", "w", "\n", 0, 1, None, False, True, [], (), {}, ("W",), "count"]
        self.check_each([changed(MANY, VALUE, value) for value in values], BadRule)

    def test_values_of_the_other_kinds(self):
        values = ["", "w", "WW", "Abcdefghi", 0, 1, None, False, [], (), ("W",), ["W"], "sum"]
        for kind in ("sum", "least", "most"):
            self.check([gather(kind, "W")], None)
            self.check_each([gather(kind, value) for value in values], BadRule)

    def test_keys(self):
        body = (("has", ("p", "A", "B", "C", "D")),)
        for keys in [(), ("A",), ("B", "A"), ("A", "B", "C"), ("D", "C", "A")]:
            self.check([gather(keys=keys, body=body)], None)
        spoilt = [("A", "B", "C", "D"), ("A", "A"), ("A", "B", "A"), ("A", "B", "B"), ("A", "A", "B"), ("A",) * 4,
                  ["A"], [], "A", "", None, {}, {"A": 1}, ("a",), (1,), ("",), ("A", ""), ("A", None), (["A"],),
                  (("A",),),
                  ("A", "B", 1), ("AB",), ("A", "A ")]
        self.check_each([gather(keys=keys, body=body) for keys in spoilt], BadRule)

    def test_the_result_in_the_body(self):
        self.check_each([
            gather(result="X", head=("g", "X")), gather(result="W", head=("g",)),
            gather("sum", "W", result="W", head=("g",)),
            gather("sum", "W", ("X",), result="X", head=("g", "X")), gather(result="Y", keys=("Y",), head=("g", "Y")),
            gather(body=(ROAD, ("plus", 1, 2, "N"))), gather(body=(ROAD, ("has", ("p", 1, "N")))),
            gather(body=(ROAD, ("has", ("p", "N")), ("not", ("q", "N")))),
        ], BadRule)


class UnboundWords(RulesTest):
    def test_in_a_body(self):
        bodies = [(("not", ("q", "X")),), (("less", "X", 1),), (("less", 1, "X"),), (("same", 1, "X"),),
                  (("same", "X", 1),),
                  (("plus", "X", 1, 2),), (("plus", 1, "X", 2),), (("not", ("q", "X")), ROAD), (ROAD, ("less", "Z", 1))]
        self.check_each([("rule", ("p",), body) for body in bodies], Unbound)
        self.check_each([gather(body=body) for body in bodies], Unbound)

    def test_in_a_head(self):
        heads = [("p", "Z"), ("p", "X", "Z"), ("p", "Z", "X"), ("p", "X", "Y", "W", "Z"), ("p", 1, "a", "Z")]
        self.check_each([("rule", head, (ROAD,)) for head in heads], Unbound)
        self.check([("rule", ("p", "X"), (RAIN, ("less", 1, 2)))], Unbound)

    def test_in_the_head_of_a_gather(self):
        heads = [("g", "Z"), ("g", "N", "Z"), ("g", "X", "N"), ("g", "N", "W"), ("g", "Y", "N", "X")]
        self.check_each([gather("sum", "W", ("Y",), head) for head in heads], Unbound)
        self.check([gather("sum", "W", ("X", "Y"), ("g", "W"))], Unbound)

    def test_in_a_value(self):
        self.check_each([gather(kind, "Z") for kind in ("sum", "least", "most")], Unbound)
        self.check_each([gather(kind, "N") for kind in ("sum", "least", "most")], Unbound)

    def test_in_keys(self):
        self.check_each([gather(keys=keys) for keys in [("Z",), ("X", "Z"), ("Z", "X"), ("X", "Y", "Z"), ("N",),
                                                        ("X", "N")]],
                        Unbound)


class OrderOfRefusals(RulesTest):
    WIDE = ("rule", ("wet", 1), (RAIN,))

    def test_the_first_bad_rule_is_refused(self):
        self.check([WET, BAD, UNBOUND], BadRule)
        self.check([WET, UNBOUND, BAD], Unbound)
        self.check([UNBOUND, None], Unbound)
        self.check([None, UNBOUND], BadRule)
        self.check([gather(keys=("Z",)), gather(result="X", head=("g",))], Unbound)
        self.check([gather(result="X", head=("g",)), gather(keys=("Z",))], BadRule)
        self.check([WET] * 19 + [UNBOUND], Unbound)
        self.check([WET] * 19 + [BAD], BadRule)

    def test_the_form_of_a_rule_is_looked_at_ahead_of_its_words(self):
        self.check([("rule", ("p", "Z"), (("less", "X", 1), ("more", 1, 2)))], BadRule)
        self.check([gather("sums", "Z", ("Z",), ("g", "Z"), (("less", "X", 1),))], BadRule)
        self.check([gather(keys=("Z", "Z"), body=(("less", "X", 1),))], BadRule)
        self.check([gather("count", "W", body=(("less", "X", 1),))], BadRule)
        self.check([gather(body=(("less", "X", 1),), result="n")], BadRule)

    def test_the_parts_of_a_gather_come_ahead_of_its_result(self):
        self.check([gather(body=(("less", "N", 1),))], Unbound)
        self.check([gather(body=(("has", ("p", "N")), ("less", "Z", 1)))], Unbound)
        self.check([gather(body=(("less", "Z", 1), ("has", ("p", "N"))))], Unbound)

    def test_the_result_of_a_gather_comes_ahead_of_its_value_keys_and_head(self):
        body = (("has", ("p", "N")),)
        self.check([gather("sum", "Z", body=body)], BadRule)
        self.check([gather(keys=("Z",), body=body)], BadRule)
        self.check([gather(head=("g", "Z"), body=body)], BadRule)

    def test_widths_come_behind_all_rules(self):
        self.check([WET, self.WIDE], BadWidth)
        self.check([self.WIDE, WET], BadWidth)
        self.check([WET, self.WIDE, BAD], BadRule)
        self.check([WET, self.WIDE, UNBOUND], Unbound)
        self.check([("rule", ("p", "Z"), (("has", ("p",)),))], Unbound)
        self.check([WET, self.WIDE] * 10, BadWidth)
        self.check([WET, self.WIDE] * 11, TooMany)

    def test_a_name_has_one_width_in_all_rules(self):
        self.check([WET, ("rule", ("p",), (("not", ("wet", 1)),))], BadWidth)
        self.check([("rule", ("p",), (RAIN, ("has", ("rain", 1))))], BadWidth)
        self.check([MANY, ("rule", ("p",), (("has", ("road", 1)),))], BadWidth)
        self.check([MANY, ("rule", ("many", 1, 2), (RAIN,))], BadWidth)

    def test_values_written_like_names_have_no_width(self):
        self.check([WET, ("rule", ("dry", "wet", "rain"), (("not", ("dry", "wet", "wet")), ("same", "wet", "dry")))],
                   None)
        self.check([("gather", ("g", "g", "N"), "count", "N", "", (), (("has", ("p", "g")), ("less", "p", "g")))], None)


if __name__ == "__main__":
    unittest.main()
