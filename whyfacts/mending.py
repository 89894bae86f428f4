"""Mending: one layer of a store, behind a change of told facts and of the layers beneath."""

from whyfacts.breaking import broken, marked
from whyfacts.words import rank_of
from whyfacts.working import closed, hold_told


def layer_mended(store, rules, numbers, told, gone, came, untold, most):
    ahead = marked(store.facts())
    dropped = broken(store, rules, numbers, gone, came, untold)
    for fact in dropped:
        store.drop(fact)
    hold_told(store, told, most)
    closed(store, rules, numbers, most)
    fresh = [fact for fact in store.facts() if fact not in ahead]
    return (dropped, sorted(fresh, key=rank_of))
