import copy
import itertools
import random
import unittest

from helper import refusal_of, rules_in
from whyfacts.errors import Ringed
from whyfacts.layers import by_layers, layers_of, ring_of
from whyfacts.leans import leans_of


def names_in(rules):
    names = {rule[1][0] for rule in rules}
    return names | {part[1][0] for rule in rules for part in rule[-1] if part[0] in ("has", "not")}


def fits(layers, leans):
    return all(layers[head] >= layers[name] + strict for head, name, strict in leans)


def least_layers(rules):
    """By trying all numbers below the number of names: the least ones that fit, or None."""
    names = sorted(names_in(rules))
    leans = leans_of(rules)
    tries = [dict(zip(names, numbers)) for numbers in itertools.product(range(len(names)), repeat=len(names))]
    good = [layers for layers in tries if fits(layers, leans)]
    if not good:
        return None
    least = {name: min(layers[name] for layers in good) for name in names}
    return least if least in good else None


def is_ring(ring, rules):
    leans = {(head, name): strict for head, name, strict in leans_of(rules)}
    pairs = list(zip(ring, ring[1:] + ring[:1]))
    return (type(ring) is list and len(ring) > 0 and len(set(ring)) == len(ring) and all(pair in leans for pair in pairs)
            and leans[pairs[0]])


def some_rules(rng, names):
    rows = []
    for _ in range(rng.randint(0, 6)):
        parts = [rng.choice(["", "", "not "]) + rng.choice(names) for _ in range(rng.randint(1, 3))]
        gather = rng.choice(["", "", "", "N is count: "])
        rows.append(f"{rng.choice(names)} if {gather}{', '.join(parts)}.")
    return rules_in(" ".join(rows))


class Layers(unittest.TestCase):
    def check(self, text, layers, numbers):
        rules = rules_in(text)
        with self.subTest(text):
            self.assertEqual(layers_of(rules), layers)
            self.assertEqual(by_layers(rules), numbers)
            self.assertIs(ring_of(rules), None)

    def test_no_rules(self):
        self.check("", {}, [])

    def test_names_that_stand_only_in_bodies(self):
        self.check("p if q, not r.", {"p": 1, "q": 0, "r": 0}, [[], [0]])
        self.check("p if q.", {"p": 0, "q": 0}, [[0]])

    def test_values_and_tests_are_no_names(self):
        self.check("p(a) if q(b), same(c, d).", {"p": 0, "q": 0}, [[0]])
        self.check("p if same(c, d).", {"p": 0}, [[0]])

    def test_a_gather_lies_above_all_of_its_body(self):
        self.check("p if N is count: q, r.", {"p": 1, "q": 0, "r": 0}, [[], [0]])
        self.check("p if N is count: q. q if not r.", {"p": 2, "q": 1, "r": 0}, [[], [1], [0]])

    def test_names_that_lean_on_themselves(self):
        self.check("p if p.", {"p": 0}, [[0]])
        self.check("p if p, not q.", {"p": 1, "q": 0}, [[], [0]])

    def test_names_that_lean_on_one_another(self):
        self.check("p if q. q if r. r if p.", {"p": 0, "q": 0, "r": 0}, [[0, 1, 2]])
        self.check("p if q. q if r. r if p. q if not s.", {"p": 1, "q": 1, "r": 1, "s": 0}, [[], [0, 1, 2, 3]])

    def test_a_chain_of_twenty_rules(self):
        names = [chr(ord("a") + place) for place in range(21)]
        for shown in ["{} if not {}.", "{} if N is count: {}."]:
            rows = [shown.format(head, name) for name, head in zip(names, names[1:])]
            layers = {name: place for place, name in enumerate(names)}
            self.check(" ".join(rows), layers, [[]] + [[number] for number in range(20)])
            self.check(" ".join(reversed(rows)), layers, [[]] + [[number] for number in reversed(range(20))])
        self.check(" ".join(f"{head} if {name}." for name, head in zip(names, names[1:])), dict.fromkeys(names, 0),
                   [list(range(20))])

    def test_several_rules_of_one_head(self):
        self.check("p if q. p if r. p if s. q if not s. r if not q.", {"p": 2, "q": 1, "r": 2, "s": 0},
                   [[], [3], [0, 1, 2, 4]])

    def test_layers_without_a_rule(self):
        self.check("p if not q.", {"p": 1, "q": 0}, [[], [0]])
        self.check("a if not z. c if not b. b if N is count: a.", {"z": 0, "a": 1, "b": 2, "c": 3}, [[], [0], [2], [1]])

    def test_numbers_of_a_layer_rise(self):
        self.check("p if q. a if not q. r if q. b if not q. p if r.", {"p": 0, "q": 0, "r": 0, "a": 1, "b": 1},
                   [[0, 2, 4], [1, 3]])

    def test_each_number_is_the_least_one(self):
        rng = random.Random(13)
        rings = 0
        for turn in range(300):
            rules = some_rules(rng, "abcd"[:rng.randint(1, 4)])
            least = least_layers(rules)
            with self.subTest(turn):
                if least is None:
                    rings += 1
                    self.assertIs(refusal_of(layers_of, rules), Ringed)
                    self.assertIs(refusal_of(by_layers, rules), Ringed)
                    self.assertTrue(is_ring(ring_of(rules), rules))
                else:
                    self.assertEqual(layers_of(rules), least)
                    self.assertIs(ring_of(rules), None)
        self.assertTrue(50 < rings < 250)

    def test_rules_stay_and_what_is_told_may_be_changed(self):
        rules = rules_in("p if q, not r. q if q.")
        ahead = copy.deepcopy(rules)
        layers_of(rules).clear()
        told = by_layers(rules)
        told[1].append(5)
        told.clear()
        self.assertEqual(rules, ahead)
        self.assertEqual(layers_of(rules), {"p": 1, "q": 0, "r": 0})
        self.assertEqual(by_layers(rules), [[1], [0]])

    def test_more_rules_than_a_list_may_have(self):
        self.assertEqual(by_layers(rules_in("p if q. " * 25)), [list(range(25))])


class Rings(unittest.TestCase):
    def check(self, text, *rings):
        rules = rules_in(text)
        with self.subTest(text):
            ring = ring_of(rules)
            self.assertTrue(is_ring(ring, rules), ring)
            self.assertIn(ring, list(rings))
            self.assertIs(refusal_of(layers_of, rules), Ringed)
            self.assertIs(refusal_of(by_layers, rules), Ringed)

    def test_a_name_strictly_on_itself(self):
        self.check("p if not p.", ["p"])
        self.check("p if N is count: p.", ["p"])
        self.check("p if q, not p. q if r.", ["p"])

    def test_a_ring_that_goes_strictly_once(self):
        self.check("p if not q. q if p.", ["p", "q"])
        self.check("q if p. p if not q.", ["p", "q"])
        self.check("p if q. q if not r. r if s. s if p.", ["q", "r", "s", "p"])
        self.check("p if N is count: q. q if r. r if p.", ["p", "q", "r"])

    def test_a_ring_that_goes_strictly_more_than_once(self):
        self.check("p if not q. q if not p.", ["p", "q"], ["q", "p"])
        self.check("p if not q. q if N is count: r. r if p.", ["p", "q", "r"], ["q", "r", "p"])

    def test_a_ring_beside_others_that_are_none(self):
        self.check("a if b. b if a. c if not a. p if not q. q if p, c.", ["p", "q"])
        self.check("p if p. p if q. q if not p.", ["q", "p"])

    def test_a_long_ring(self):
        names = [chr(ord("a") + place) for place in range(20)]
        rows = [f"{name} if {other}." for name, other in zip(names, names[1:])]
        self.check(" ".join(rows) + " t if not a.", ["t"] + names[:-1])

    def test_none(self):
        for text in ["", "p if p.", "p if q. q if p.", "p if q. q if r. r if p. s if not p.",
                     "p if not q. p if not r. r if not q.",
                     "p(p) if not q(p).", "p if same(p, p)."]:
            with self.subTest(text):
                self.assertIs(ring_of(rules_in(text)), None)

    def test_rules_stay_and_a_ring_may_be_changed(self):
        rules = rules_in("p if not q. q if p.")
        ahead = copy.deepcopy(rules)
        ring_of(rules).clear()
        self.assertEqual(rules, ahead)
        self.assertEqual(ring_of(rules), ["p", "q"])


if __name__ == "__main__":
    unittest.main()
