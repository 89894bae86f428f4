"""Forms: patterns, facts, parts, bodies and rules, and what is refused of each."""

from whyfacts.errors import BadFact, BadRule, BadWidth, TooMany, Unbound
from whyfacts.words import MOST_PARTS, MOST_RULES, MOST_WIDTH, is_free, is_name, is_term, is_value

MOST_KEYS = 3

PATTERN_PARTS = ("has", "not")
TERM_COUNTS = {"less": 2, "same": 2, "plus": 3}
GATHER_KINDS = ("count", "sum", "least", "most")


def is_pattern(thing):
    if not isinstance(thing, tuple) or not 1 <= len(thing) <= 1 + MOST_WIDTH:
        return False
    return is_name(thing[0]) and all([is_term(term) for term in thing[1:]])


def is_fact(thing):
    return is_pattern(thing) and all([is_value(term) for term in thing[1:]])


def need_fact(fact):
    if not is_fact(fact):
        raise BadFact("a fact is a tuple of a name and none to four values")
    return fact


# Things of any kind come in here: only what is a text may be compared with a word or looked up.
def word_ahead(thing):
    if isinstance(thing, tuple) and len(thing) > 0 and isinstance(thing[0], str):
        return thing[0]
    return ""


def is_part(thing):
    word = word_ahead(thing)
    if word in PATTERN_PARTS:
        return len(thing) == 2 and is_pattern(thing[1])
    if word in TERM_COUNTS:
        return len(thing) == 1 + TERM_COUNTS[word] and all([is_term(term) for term in thing[1:]])
    return False


def is_body(thing):
    if not isinstance(thing, tuple) or not 1 <= len(thing) <= MOST_PARTS:
        return False
    return all([is_part(part) for part in thing])


def free_among(terms):
    return [term for term in terms if is_free(term)]


def words_of_part(part):
    if part[0] in PATTERN_PARTS:
        return free_among(part[1][1:])
    return free_among(part[1:])


def words_in(body):
    words = {}
    for part in body:
        for word in words_of_part(part):
            words[word] = True
    return list(words)


def wanted_by(part):
    if part[0] == "has":
        return []
    if part[0] == "plus":
        return free_among(part[1:3])
    return words_of_part(part)


def need_bound(words, bound):
    for word in words:
        if word not in bound:
            raise Unbound(f"the free word {word} is not bound")


def need_bound_parts(body):
    bound = []
    for part in body:
        need_bound(wanted_by(part), bound)
        bound.extend(words_of_part(part))


def need_body(body):
    if not is_body(body):
        raise BadRule("a body is a tuple of 1 to 6 parts")
    need_bound_parts(body)
    return body


def is_plain_rule(thing):
    return word_ahead(thing) == "rule" and len(thing) == 3 and is_pattern(thing[1]) and is_body(thing[2])


def is_gather_kind(thing):
    return isinstance(thing, str) and thing in GATHER_KINDS


def is_gather_value(thing, kind):
    if kind == "count":
        return isinstance(thing, str) and thing == ""
    return is_free(thing)


def are_keys(thing):
    if not isinstance(thing, tuple) or len(thing) > MOST_KEYS:
        return False
    return all([is_free(key) for key in thing]) and len(set(thing)) == len(thing)


def is_gather(thing):
    if word_ahead(thing) != "gather" or len(thing) != 7:
        return False
    if not is_gather_kind(thing[2]) or not is_gather_value(thing[4], thing[2]):
        return False
    return is_pattern(thing[1]) and is_free(thing[3]) and are_keys(thing[5]) and is_body(thing[6])


def need_plain_bound(head, body):
    need_bound_parts(body)
    need_bound(free_among(head[1:]), words_in(body))


def need_gather_bound(head, result, value, keys, body):
    need_bound_parts(body)
    bound = words_in(body)
    if result in bound:
        raise BadRule(f"the result {result} of a gather stands in its body")
    need_bound(free_among((value,)), bound)
    need_bound(keys, bound)
    need_bound(free_among(head[1:]), keys + (result,))


def need_rule(rule):
    if is_plain_rule(rule):
        need_plain_bound(rule[1], rule[2])
    elif is_gather(rule):
        need_gather_bound(rule[1], rule[3], rule[4], rule[5], rule[6])
    else:
        raise BadRule("a rule is a tuple of the word rule or gather and its fields")


def patterns_in(rule):
    return [rule[1]] + [part[1] for part in rule[-1] if part[0] in PATTERN_PARTS]


def widths_of(rules):
    widths = {}
    for rule in rules:
        for pattern in patterns_in(rule):
            name = pattern[0]
            width = len(pattern) - 1
            if widths.setdefault(name, width) != width:
                raise BadWidth(f"the name {name} has two widths")
    return widths


def need_rules(rules):
    if not isinstance(rules, list):
        raise BadRule("rules stand in a list")
    if len(rules) > MOST_RULES:
        raise TooMany("at most 20 rules stand in a list")
    for rule in rules:
        need_rule(rule)
    widths_of(rules)
    return list(rules)
