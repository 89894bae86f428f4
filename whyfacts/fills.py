"""Fills: values for the free words of one pattern or one test."""

from whyfacts.words import is_free, is_number


def matched(pattern, fact, fill):
    if pattern[0] != fact[0] or len(pattern) != len(fact):
        return None
    found = dict(fill)
    for term, value in zip(pattern[1:], fact[1:]):
        wanted = found.setdefault(term, value) if is_free(term) else term
        if wanted != value:
            return None
    return found


def filled(pattern, fill):
    return (pattern[0],) + tuple([fill.get(term, term) for term in pattern[1:]])


def are_numbers(one, other):
    return is_number(one) and is_number(other)


# The sum is matched like a fact of one value: that binds the both that isn't told yet, and tests the one that is.
def added(one, other, both, fill):
    if not are_numbers(one, other) or not is_number(one + other):
        return None
    return matched(("plus", both), ("plus", one + other), fill)


def tested(part, fill):
    terms = filled(part, fill)
    one = terms[1]
    other = terms[2]
    if part[0] == "plus":
        return added(one, other, part[3], fill)
    if part[0] == "less":
        so = are_numbers(one, other) and one < other
    else:
        so = one == other
    return dict(fill) if so else None
