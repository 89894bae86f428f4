"""Whys: on what a fact rests, and its row of reasons down to told facts."""

from whyfacts.words import rank_of


def grounds_in(reason):
    if reason[0] == "by":
        return list(reason[2])
    found = []
    if reason[0] == "of":
        for grounds in reason[3]:
            found.extend(grounds)
    return found


def facts_of_grounds(reason, word):
    found = {}
    for ground in grounds_in(reason):
        if ground[0] == word:
            found[ground[1]] = True
    return list(found)


def rests_on(reason):
    return facts_of_grounds(reason, "has")


# Reasons that are handed in may name any number, and Python would count one below 0 from the end.
def rule_named(rules, number, kind):
    if 0 <= number < len(rules) and rules[number][0] == kind:
        return rules[number]
    return None


def all_beneath(store, fact):
    found = {fact: True}
    waiting = [fact]
    while len(waiting) > 0:
        upper = waiting.pop()
        for lower in rests_on(store.reason(upper)):
            if lower not in found:
                found[lower] = True
                waiting.append(lower)
    return [lower for lower in found if lower != fact]


def why_of(store, fact):
    facts = sorted(all_beneath(store, fact), key=store.stamp) + [fact]
    return [(one, store.reason(one)) for one in facts]


# A fact that the row doesn't have counts for nothing: only one on which the last fact doesn't rest can name it.
def height_of(row):
    heights = {}
    for fact, reason in row:
        heights[fact] = 1 + max([heights.get(lower, 0) for lower in rests_on(reason)], default=0)
    return heights[row[-1][0]]


def leaves_of(row):
    return sorted([fact for fact, reason in row if reason[0] == "told"], key=rank_of)
