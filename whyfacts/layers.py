"""Layers: the least number of each name, above all on which it leans strictly; or a ring, where there are none."""

from whyfacts.errors import Ringed
from whyfacts.forms import patterns_in
from whyfacts.leans import leans_of


def names_by_head(leans):
    names = {}
    for head, name, strict in leans:
        names.setdefault(head, []).append(name)
    return names


def way_back(came_from, begin, end):
    way = [end]
    while way[-1] != begin:
        way.append(came_from[way[-1]])
    return list(reversed(way))


# The shortest way, so that no name stands in it twice.
def way_between(names, begin, end):
    came_from = {begin: begin}
    reached = [begin]
    place = 0
    while place < len(reached) and end not in came_from:
        here = reached[place]
        place += 1
        for name in names.get(here, []):
            if name not in came_from:
                came_from[name] = here
                reached.append(name)
    if end not in came_from:
        return None
    return way_back(came_from, begin, end)


def ring_of(rules):
    leans = leans_of(rules)
    names = names_by_head(leans)
    for head, name, strict in leans:
        if strict:
            way = way_between(names, name, head)
            if way is not None:
                return [head] + way[:-1]
    return None


def layer_wanted(layers, name, strict):
    return layers[name] + 1 if strict else layers[name]


# Each name is lifted no further than it must be, so the numbers are the least ones; without a ring there is an end.
def lift(layers, leans):
    lifted = True
    while lifted:
        lifted = False
        for head, name, strict in leans:
            wanted = layer_wanted(layers, name, strict)
            if layers[head] < wanted:
                layers[head] = wanted
                lifted = True


def layers_of(rules):
    if ring_of(rules) is not None:
        raise Ringed("a name leans strictly on itself, straight or by way of others")
    layers = {}
    for rule in rules:
        for pattern in patterns_in(rule):
            layers[pattern[0]] = 0
    lift(layers, leans_of(rules))
    return layers


def by_layers(rules):
    layers = layers_of(rules)
    numbers = [[] for layer in range(1 + max([layers[name] for name in layers], default=-1))]
    for number, rule in enumerate(rules):
        numbers[layers[rule[1][0]]].append(number)
    return numbers
