"""What several tests use: which class refuses a call, things of many kinds, programs, and a slow way to work them."""

import random

from whyfacts.errors import FactError
from whyfacts.layers import layers_of
from whyfacts.program import need_program
from whyfacts.reading import read_program
from whyfacts.store import Store
from whyfacts.working import worked


class Prickly:
    """A thing that can be neither compared, nor hashed, nor shown."""

    __hash__ = None

    def __eq__(self, other):
        raise AssertionError("compared")

    def __repr__(self):
        raise AssertionError("shown")

    def __bool__(self):
        raise AssertionError("tried for truth")


def refusal_of(call, *handed):
    """The very class that refuses, or None where nothing is refused."""
    try:
        call(*handed)
    except FactError as refusal:
        return type(refusal)
    return None


def deep_tuple(depth):
    thing = ()
    for _ in range(depth):
        thing = (thing,)
    return thing


def odd_things():
    """Things that are no word, number, pattern, part, body or rule, nor a list of rules."""
    knot = {}
    knot["knot"] = knot
    return [
        None, True, False, 1.0, 1.5, 2j, b"a", bytearray(b"a"), "", " ", "\n", (), {}, {"a": 1}, {"a"}, frozenset("a"),
        object(), len, int, range(3), iter(()), Prickly(), (Prickly(),), (None,), ([],), ({},), ((),), (knot,),
        deep_tuple(20000), 10 ** 5000, -(10 ** 5000), "a" * 100000,
    ]


def rules_in(text):
    return read_program(text)[0]


def facts_in(text):
    return read_program(text)[1]


def held_in(text):
    """The facts of a text as a dict from names to lists."""
    return held_by_name(facts_in(text))


def held_by_name(facts):
    held = {}
    for fact in facts:
        held.setdefault(fact[0], []).append(fact)
    return held


TOLD = ("told",)


def has(*fact):
    return ("has", fact)


def by(number, *grounds):
    return ("by", number, grounds)


def of(number, key_values, *grounds):
    return ("of", number, key_values, grounds)


def store_of(*pairs):
    """A store that holds facts with reasons, handed in as pairs."""
    store = Store()
    for fact, reason in pairs:
        store.hold(fact, reason)
    return store


def store_with(text):
    """A store that holds the facts of a text as told ones."""
    return store_of(*[(fact, TOLD) for fact in facts_in(text)])


def whole(store):
    """All that a store tells of its facts."""
    return [(fact, store.reason(fact), store.stamp(fact)) for fact in store.facts()]


def numbers(name, many):
    """As many facts of one name as told, as a dict from names to lists."""
    return {name: [(name, number) for number in range(many)]}


WIDTHS = {"p": 1, "q": 2, "r": 0, "s": 1, "t": 2, "u": 1, "v": 0}
VALUES = ["a", 0, 1, 2, 3]


def some_pattern(rng, words, names="pqrstuv", fresh=True):
    """A pattern of some name; where fresh, its words may be new ones."""
    name = rng.choice(names)
    choice = (["X", "Y", "Z"] if fresh else words) or [rng.choice(VALUES)]
    terms = [rng.choice(choice) if rng.random() < 0.9 else rng.choice(VALUES) for _ in range(WIDTHS[name])]
    return (name,) + tuple(terms)


def words_of(pattern):
    return [term for term in pattern[1:] if isinstance(term, str) and term[0].isupper()]


def some_body(rng):
    parts = []
    bound = []
    for _ in range(rng.randint(1, 4)):
        kind = rng.choice(["has", "has", "has", "not", "not", "less", "plus",
                           rng.choice(["same", "has"])] if bound else ["has", "has", "not"])
        if kind in ("has", "not"):
            part = (kind, some_pattern(rng, bound, fresh=kind == "has"))
            bound += words_of(part[1])
        else:
            terms = [rng.choice(bound), rng.choice(VALUES)]
            part = (kind,) + tuple(terms) + ((rng.choice(["X", "Y", "Z", 2]),) if kind == "plus" else ())
            bound += words_of(part[-2:]) if kind == "plus" else []
        parts.append(part)
    return tuple(parts), sorted(set(bound))


def some_rule(rng):
    body, bound = some_body(rng)
    if rng.random() < 0.7:
        return ("rule", some_pattern(rng, bound, fresh=False), body)
    kind = rng.choice(["count", "sum", "least", "most"]) if bound else "count"
    keys = tuple(rng.sample(bound, rng.randint(0, min(2, len(bound)))))
    value = "" if kind == "count" else rng.choice(bound)
    return ("gather", some_pattern(rng, list(keys) + ["N"], fresh=False), kind, "N", value, keys, body)


def some_program(rng, most=7):
    """Rules that need_program takes: rules are added as long as they are taken."""
    rules = []
    for _ in range(rng.randint(1, 3 * most)):
        tried = rules + [some_rule(rng)]
        if len(tried) <= most and refusal_of(need_program, tried) is None:
            rules = tried
    return rules


def some_facts(rng, many):
    names = sorted(WIDTHS) + ["free"]
    found = []
    for _ in range(many):
        name = rng.choice(names)
        found.append((name,) + tuple(rng.choice(VALUES) for _ in range(WIDTHS.get(name, rng.randint(0, 2)))))
    return found


def some_worked(seed, many):
    """Rules, told facts and the store of working from the start, where that isn't refused."""
    rng = random.Random(seed)
    for turn in range(many):
        rules = some_program(rng)
        told = some_facts(rng, rng.randint(0, 14))
        if refusal_of(worked, rules, told) is None:
            yield turn, rules, told, worked(rules, told)


def slow_match(terms, values, fill):
    found = dict(fill)
    for term, value in zip(terms, values):
        if isinstance(term, str) and term[0].isupper():
            if found.setdefault(term, value) != value:
                return None
        elif term != value:
            return None
    return found


def slow_test(part, fill):
    terms = [fill.get(term, term) for term in part[1:]]
    if part[0] == "same":
        return fill if terms[0] == terms[1] else None
    if isinstance(terms[0], str) or isinstance(terms[1], str):
        return None
    if part[0] == "less":
        return fill if terms[0] < terms[1] else None
    total = terms[0] + terms[1]
    return slow_match(part[3:], [total], fill) if abs(total) <= 999999999 else None


def slow_fills(body, facts):
    """The fills of a body over a list of facts, told straight from the document, one fact behind the other."""
    fills = [{}]
    for part in body:
        found = []
        for fill in fills:
            if part[0] == "has":
                alike = [fact for fact in facts if fact[0] == part[1][0] and len(fact) == len(part[1])]
                found += [slow_match(part[1][1:], fact[1:], fill) for fact in alike]
            elif part[0] == "not":
                fact = (part[1][0],) + tuple(fill.get(term, term) for term in part[1][1:])
                found += [fill] if fact not in facts else []
            else:
                found.append(slow_test(part, fill))
        fills = [fill for fill in found if fill is not None]
    return fills


def slow_groups(rule, facts):
    groups = {}
    for fill in slow_fills(rule[6], facts):
        groups.setdefault(tuple(fill[key] for key in rule[5]), []).append(fill)
    return groups


def slow_gather(rule, facts):
    """The facts that the groups of a gather tell."""
    found = []
    for key_values, fills in slow_groups(rule, facts).items():
        values = [fill[rule[4]] for fill in fills] if rule[4] else []
        result = {"count": lambda: len(fills), "sum": lambda: sum(values), "least": lambda: min(values),
                  "most": lambda: max(values)}
        if all(isinstance(value, int) for value in values):
            told = result[rule[2]]()
            if abs(told) <= 999999999:
                fill = {**dict(zip(rule[5], key_values)), rule[3]: told}
                found.append((rule[1][0],) + tuple(fill.get(term, term) for term in rule[1][1:]))
    return found


def slow_work(rules, told):
    """The set of facts that hold; only for what isn't refused, since it looks at each fact again and again."""
    facts = set(told)
    layers = layers_of(rules)
    for layer in range(1 + max(layers.values(), default=0)):
        own = [rule for rule in rules if layers[rule[1][0]] == layer]
        for rule in own:
            facts |= set(slow_gather(rule, sorted(facts, key=repr)) if rule[0] == "gather" else [])
        ahead = None
        while ahead != facts:
            ahead = set(facts)
            for rule in own:
                if rule[0] == "rule":
                    for fill in slow_fills(rule[2], sorted(facts, key=repr)):
                        facts.add((rule[1][0],) + tuple(fill.get(term, term) for term in rule[1][1:]))
    return facts
