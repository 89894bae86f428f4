"""Writing: facts, parts and rules as texts that are read to the same."""


def shown_terms(terms):
    return ", ".join([str(term) for term in terms])


def shown_fact(fact):
    if len(fact) == 1:
        return fact[0]
    return fact[0] + "(" + shown_terms(fact[1:]) + ")"


# Tests are written as patterns are, with their word as the name.
def shown_part(part):
    if part[0] == "has":
        return shown_fact(part[1])
    if part[0] == "not":
        return "not " + shown_fact(part[1])
    return shown_fact(part)


def shown_body(body):
    return ", ".join([shown_part(part) for part in body])


def shown_gathering(kind, result, value, keys):
    shown = result + " is " + kind
    if value != "":
        shown += " " + value
    if len(keys) > 0:
        shown += " by " + ", ".join(keys)
    return shown + ": "


def shown_rule(rule):
    gathering = shown_gathering(rule[2], rule[3], rule[4], rule[5]) if rule[0] == "gather" else ""
    return shown_fact(rule[1]) + " if " + gathering + shown_body(rule[-1]) + "."


def shown_program(rules, facts):
    return "\n".join([shown_rule(rule) for rule in rules] + [shown_fact(fact) + "." for fact in facts])
