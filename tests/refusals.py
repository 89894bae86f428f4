"""What several tests use: which class refuses a call, and things of many kinds."""

from whyfacts.errors import FactError


class Prickly:
    """A thing that can be neither compared, nor hashed, nor shown."""

    __hash__ = None

    def __eq__(self, other):
        raise AssertionError("compared")

    def __repr__(self):
        raise AssertionError("shown")

    def __bool__(self):
        raise AssertionError("tried for truth")


def refusal_of(call, *handed):
    """The very class that refuses, or None where nothing is refused."""
    try:
        call(*handed)
    except FactError as refusal:
        return type(refusal)
    return None


def deep_tuple(depth):
    thing = ()
    for _ in range(depth):
        thing = (thing,)
    return thing


def odd_things():
    """Things that are no word, number, pattern, part, body or rule, nor a list of rules."""
    knot = {}
    knot["knot"] = knot
    return [
        None, True, False, 1.0, 1.5, 2j, b"a", bytearray(b"a"), "", " ", "\n", (), {}, {"a": 1}, {"a"}, frozenset("a"),
        object(), len, int, range(3), iter(()), Prickly(), (Prickly(),), (None,), ([],), ({},), ((),), (knot,),
        deep_tuple(20000), 10 ** 5000, -(10 ** 5000), "a" * 100000,
    ]
