"""Keeping: a set of told facts and all that follows of it, mended behind each change."""

from whyfacts.errors import BadWidth, TooMany
from whyfacts.forms import need_fact, widths_of
from whyfacts.layers import by_layers, layers_of
from whyfacts.mending import layer_mended
from whyfacts.program import need_program
from whyfacts.store import Store
from whyfacts.whys import why_of
from whyfacts.words import MOST_FACTS, rank_of


# Without rules there is a layer, too: names in no rule are of layer 0.
def numbers_by_layer(rules):
    numbers = by_layers(rules)
    return numbers if len(numbers) > 0 else [[]]


def layer_of(fact, layers):
    return layers.get(fact[0], 0)


def of_layer(facts, layers, layer):
    return [fact for fact in facts if layer_of(fact, layers) == layer]


# Facts of upper layers are still there as they were ahead of the change, and may be dropped yet: they don't count.
def most_at_layer(store, layers, layer):
    return MOST_FACTS + len([fact for fact in store.facts() if layer_of(fact, layers) > layer])


# Facts that stay count only here: a layer that brings nothing is never refused.
def need_few(store):
    if len(store.facts()) > MOST_FACTS:
        raise TooMany("more facts would be held than may be")


def only_in(store, other):
    return sorted([fact for fact in store.facts() if not other.has(fact)], key=rank_of)


class Keep:
    def __init__(self, rules):
        self.rules = need_program(rules)
        self.widths = widths_of(self.rules)
        self.layers = layers_of(self.rules)
        self.numbers = numbers_by_layer(self.rules)
        self.told_facts = {}
        self.kept = Store()

    def need_facts(self, facts):
        for fact in facts:
            need_fact(fact)
            width = len(fact) - 1
            if self.widths.get(fact[0], width) != width:
                raise BadWidth("the name of the fact has another width in the rules")

    def mend(self, store, told, untold):
        gone = []
        came = []
        for layer, numbers in enumerate(self.numbers):
            own_told = of_layer(told, self.layers, layer)
            own_untold = of_layer(untold, self.layers, layer)
            most = most_at_layer(store, self.layers, layer)
            pair = layer_mended(store, self.rules, numbers, own_told, gone, came, own_untold, most)
            gone = gone + pair[0]
            came = came + pair[1]
        need_few(store)

    # All is done on copies, so that a refusal leaves everything as it was.
    def change(self, told, untold):
        ahead = self.kept
        store = ahead.copied()
        self.mend(store, told, untold)
        self.kept = store
        self.told_facts = told
        return (only_in(store, ahead), only_in(ahead, store))

    def put(self, facts):
        self.need_facts(facts)
        told = dict(self.told_facts)
        for fact in facts:
            told[fact] = True
        return self.change(told, [])

    def take(self, facts):
        self.need_facts(facts)
        told = dict(self.told_facts)
        untold = []
        for fact in facts:
            if fact in told:
                told.pop(fact)
                untold.append(fact)
        return self.change(told, untold)

    def told(self):
        return sorted(self.told_facts, key=rank_of)

    def facts(self):
        return sorted(self.kept.facts(), key=rank_of)

    def holds(self, fact):
        return self.kept.has(fact)

    def why(self, fact):
        return why_of(self.kept, fact)

    def store(self):
        return self.kept.copied()
