"""Leans: on which names the head of a rule leans, and on which strictly."""

from whyfacts.forms import PATTERN_PARTS


def is_strict(rule, part):
    return rule[0] == "gather" or part[0] == "not"


def leans_of(rules):
    strict = {}
    for rule in rules:
        for part in rule[-1]:
            if part[0] in PATTERN_PARTS:
                names = (rule[1][0], part[1][0])
                strict[names] = strict.get(names, False) or is_strict(rule, part)
    return [names + (strict[names],) for names in sorted(strict)]
