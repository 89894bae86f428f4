"""Bodies: all fills with which a body's parts say what is so, and their grounds."""

from whyfacts.errors import TooMany
from whyfacts.fills import filled, matched, tested
from whyfacts.forms import PATTERN_PARTS
from whyfacts.words import MOST_FILLS, is_free


# All fills that reach a part bind the same words, so any one of them tells which places are settled.
def settled_places(pattern, fill):
    return [place for place in range(1, len(pattern)) if not is_free(pattern[place]) or pattern[place] in fill]


def values_at(pattern, places):
    return tuple([pattern[place] for place in places])


def facts_by_values(facts, width, places):
    found = {}
    for fact in facts:
        if len(fact) == 1 + width:
            found.setdefault(values_at(fact, places), []).append(fact)
    return found


# The facts are looked up by the settled values, since trying each of them for each fill would take long.
def fills_by_has(pattern, fills, held):
    if len(fills) == 0:
        return []
    places = settled_places(pattern, fills[0])
    facts = facts_by_values(held.get(pattern[0], []), len(pattern) - 1, places)
    found = []
    for fill in fills:
        for fact in facts.get(values_at(filled(pattern, fill), places), []):
            one = matched(pattern, fact, fill)
            if one is not None:
                found.append(one)
        if len(found) > MOST_FILLS:
            raise TooMany("a body has too many fills")
    return found


def fills_by_not(pattern, fills, held):
    facts = held.get(pattern[0], [])
    return [fill for fill in fills if filled(pattern, fill) not in facts]


def fills_by_test(part, fills):
    tries = [tested(part, fill) for fill in fills]
    return [fill for fill in tries if fill is not None]


def fills_by_part(part, fills, held):
    if part[0] == "has":
        return fills_by_has(part[1], fills, held)
    if part[0] == "not":
        return fills_by_not(part[1], fills, held)
    return fills_by_test(part, fills)


def ground_of(part, fill):
    if part[0] in PATTERN_PARTS:
        return (part[0], filled(part[1], fill))
    return filled(part, fill)


def grounds_of(body, fill):
    return tuple([ground_of(part, fill) for part in body])


def fills_of(body, held):
    fills = [{}]
    for part in body:
        fills = fills_by_part(part, fills, held)
    return [(fill, grounds_of(body, fill)) for fill in fills]
