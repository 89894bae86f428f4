"""Programs: rules of which each name has a layer."""

from whyfacts.forms import need_rules
from whyfacts.layers import layers_of


def need_program(rules):
    needed = need_rules(rules)
    layers_of(needed)
    return needed
