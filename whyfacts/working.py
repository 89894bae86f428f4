"""Working from the start: what follows of told facts, layer by layer."""

from whyfacts.bodies import fills_of
from whyfacts.errors import TooMany
from whyfacts.fills import filled
from whyfacts.groups import gathered
from whyfacts.layers import by_layers
from whyfacts.store import Store
from whyfacts.words import MOST_FACTS, rank_of


def hold_within(store, fact, reason, most):
    if store.has(fact):
        return False
    if len(store.facts()) >= most:
        raise TooMany("more facts would be held than may be")
    return store.hold(fact, reason)


def hold_told(store, facts, most):
    for fact in sorted(facts, key=rank_of):
        hold_within(store, fact, ("told",), most)


# Those of the pairs of a fact and its reason that weren't held yet.
def hold_pairs(store, pairs, most):
    came = []
    for fact, reason in pairs:
        if hold_within(store, fact, reason, most):
            came.append(fact)
    return came


def followed(number, rule, held):
    return [(filled(rule[1], fill), ("by", number, grounds)) for fill, grounds in fills_of(rule[2], held)]


# Each rule tells over what was held ahead of them all.
def hold_by_rules(store, rules, numbers, most):
    held = store.held()
    came = []
    for number in numbers:
        rule = rules[number]
        pairs = gathered(number, rule, held) if rule[0] == "gather" else followed(number, rule, held)
        came.extend(hold_pairs(store, pairs, most))
    return came


def has_any(rule, names):
    return any([part[0] == "has" and part[1][0] in names for part in rule[-1]])


# A rule none of whose has names a fact of the last round would only tell again what it told, so it is passed over.
def closed(store, rules, numbers, most):
    gathers = [number for number in numbers if rules[number][0] == "gather"]
    others = [number for number in numbers if rules[number][0] != "gather"]
    came = hold_by_rules(store, rules, gathers, most)
    fresh = hold_by_rules(store, rules, others, most)
    while len(fresh) > 0:
        came.extend(fresh)
        names = [fact[0] for fact in fresh]
        wanted = [number for number in others if has_any(rules[number], names)]
        fresh = hold_by_rules(store, rules, wanted, most)
    return came


def worked(rules, told):
    store = Store()
    hold_told(store, told, MOST_FACTS)
    for numbers in by_layers(rules):
        closed(store, rules, numbers, MOST_FACTS)
    return store
