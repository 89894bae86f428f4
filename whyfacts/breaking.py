"""Breaking: which facts of a layer have a reason that doesn't stand any more."""

from whyfacts.groups import group_tells, groups_of
from whyfacts.whys import facts_of_grounds, rests_on, rule_named


def marked(facts):
    marks = {}
    for fact in facts:
        marks[fact] = True
    return marks


def are_any_in(facts, marks):
    return any([fact in marks for fact in facts])


def facts_to_look_at(store, rules, numbers, untold):
    heads = [rules[number][1][0] for number in numbers]
    return [fact for fact in store.facts() if fact[0] in heads or fact in untold]


def is_untold(fact, reason, untold):
    return reason[0] == "told" and fact in untold


def is_ground_changed(reason, gone, came):
    return are_any_in(rests_on(reason), gone) or are_any_in(facts_of_grounds(reason, "not"), came)


# The groups of a gather are kept in groups_by_number: many facts may be of one gather.
def is_group_changed(fact, reason, rules, held, groups_by_number):
    if reason[0] != "of":
        return False
    rule = rule_named(rules, reason[1], "gather")
    if rule is None:
        return True
    if reason[1] not in groups_by_number:
        groups_by_number[reason[1]] = groups_of(rule, held)
    return not group_tells(rule, groups_by_number[reason[1]], fact, reason[2], reason[3])


def broken_by_themselves(store, facts, rules, gone, came, untold):
    held = store.held()
    groups_by_number = {}
    found = []
    for fact in facts:
        reason = store.reason(fact)
        if is_untold(fact, reason, untold) or is_ground_changed(reason, gone, came):
            found.append(fact)
        elif is_group_changed(fact, reason, rules, held, groups_by_number):
            found.append(fact)
    return found


# A has may have a greater stamp in a store that was made by hand, so it is looked again until nothing more breaks.
def broken_by_others(store, facts, first):
    found = marked(first)
    many = -1
    while many < len(found):
        many = len(found)
        for fact in facts:
            if are_any_in(rests_on(store.reason(fact)), found):
                found[fact] = True
    return found


def broken(store, rules, numbers, gone, came, untold):
    back = marked(untold)
    facts = facts_to_look_at(store, rules, numbers, back)
    first = broken_by_themselves(store, facts, rules, marked(gone), marked(came), back)
    found = broken_by_others(store, facts, first)
    return [fact for fact in facts if fact in found]
