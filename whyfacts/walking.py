"""Walking: whether a row of reasons stands, pair by pair."""

from whyfacts.fills import filled, matched, tested
from whyfacts.forms import PATTERN_PARTS
from whyfacts.groups import group_tells, groups_of
from whyfacts.whys import rests_on, rule_named


def fill_by_ground(part, ground, fill):
    if part[0] != ground[0]:
        return None
    if part[0] in PATTERN_PARTS:
        return matched(part[1], ground[1], fill)
    return matched(part, ground, fill)


# The fill with which the body's parts are these grounds, whatever they say.
def fill_by_grounds(body, grounds):
    if len(body) != len(grounds):
        return None
    fill = {}
    for part, ground in zip(body, grounds):
        fill = fill_by_ground(part, ground, fill)
        if fill is None:
            return None
    return fill


# A has is left to the row: its fact must stand ahead there, whether it is held or not.
def ground_is_so(ground, held):
    if ground[0] == "has":
        return True
    if ground[0] == "not":
        return ground[1] not in held.get(ground[1][0], [])
    return tested(ground, {}) is not None


def by_stands(fact, rule, grounds, held):
    if rule is None:
        return False
    fill = fill_by_grounds(rule[2], grounds)
    if fill is None or filled(rule[1], fill) != fact:
        return False
    return all([ground_is_so(ground, held) for ground in grounds])


# The groups come first, since too many fills are refused whatever the key values and grounds are.
def of_stands(fact, rule, key_values, grounds, held):
    if rule is None:
        return False
    return group_tells(rule, groups_of(rule, held), fact, key_values, grounds)


def reason_stands(fact, reason, rules, told, held):
    if reason[0] == "told":
        return fact in told
    if reason[0] == "by":
        return by_stands(fact, rule_named(rules, reason[1], "rule"), reason[2], held)
    return of_stands(fact, rule_named(rules, reason[1], "gather"), reason[2], reason[3], held)


def stands(row, rules, told, held):
    ahead = {}
    for fact, reason in row:
        if fact in ahead or not reason_stands(fact, reason, rules, told, held):
            return False
        if not all([lower in ahead for lower in rests_on(reason)]):
            return False
        ahead[fact] = True
    return len(row) > 0
