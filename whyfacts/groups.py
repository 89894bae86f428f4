"""Groups: the fills of a gather's body that are alike in all keys, and the fact that each of them tells."""

from whyfacts.bodies import fills_of
from whyfacts.fills import filled
from whyfacts.words import is_number


# A dict from key values to lists of fills and grounds; it keeps the order of the groups' first fills.
def groups_of(rule, held):
    groups = {}
    for fill, grounds in fills_of(rule[6], held):
        key_values = tuple([fill[key] for key in rule[5]])
        groups.setdefault(key_values, []).append((fill, grounds))
    return groups


def sum_of(values):
    total = sum(values)
    return total if is_number(total) else None


def result_of(kind, value, group):
    if kind == "count":
        return len(group)
    values = [fill[value] for fill, grounds in group]
    if not all([is_number(one) for one in values]):
        return None
    if kind == "sum":
        return sum_of(values)
    return min(values) if kind == "least" else max(values)


def fact_of_group(rule, key_values, group):
    result = result_of(rule[2], rule[4], group)
    if result is None:
        return None
    fill = dict(zip(rule[5], key_values))
    fill[rule[3]] = result
    return filled(rule[1], fill)


def grounds_of_group(group):
    return tuple([grounds for fill, grounds in group])


def gathered(number, rule, held):
    found = []
    for key_values, group in groups_of(rule, held).items():
        fact = fact_of_group(rule, key_values, group)
        if fact is not None:
            found.append((fact, ("of", number, key_values, grounds_of_group(group))))
    return found


# The grounds of a group's fills are all different, so as many and the same ones is each of them once, in any order.
def group_tells(rule, groups, fact, key_values, grounds):
    if key_values not in groups:
        return False
    group = groups[key_values]
    own = grounds_of_group(group)
    if len(own) != len(grounds) or set(own) != set(grounds):
        return False
    return fact_of_group(rule, key_values, group) == fact
