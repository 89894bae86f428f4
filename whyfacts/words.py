"""Words: names, free words, numbers, and the order in which facts stand."""

MOST_RULES = 20
MOST_FACTS = 200
MOST_FILLS = 2000
MOST_WIDTH = 4
MOST_PARTS = 6

MOST_SIGNS = 8
MOST_NUMBER = 999999999

SMALL_LETTERS = "abcdefghijklmnopqrstuvwxyz"
GREAT_LETTERS = "ABCDEFGHIJKLMNOPQRSTUVWXYZ"

# Texts of rules use these words themselves, so a name like one of them could not be told apart from it.
KEPT_WORDS = ("has", "not", "less", "same", "plus", "if", "by", "is", "count", "sum", "least", "most", "why")


def is_short_text(thing):
    return isinstance(thing, str) and 1 <= len(thing) <= MOST_SIGNS


# Letters are looked up one by one, since Python's own tests of texts take letters beyond a to z, too.
def all_small(text):
    return all([sign in SMALL_LETTERS for sign in text])


def is_name(thing):
    return is_short_text(thing) and all_small(thing) and thing not in KEPT_WORDS


def is_free(thing):
    return is_short_text(thing) and thing[0] in GREAT_LETTERS and all_small(thing[1:])


def is_number(thing):
    if isinstance(thing, bool):
        return False
    return isinstance(thing, int) and -MOST_NUMBER <= thing <= MOST_NUMBER


def is_value(thing):
    return is_name(thing) or is_number(thing)


def is_term(thing):
    return is_value(thing) or is_free(thing)


# A number and a name can't be compared, so the first place parts them before one meets the other.
def rank_of_value(value):
    if isinstance(value, str):
        return (1, value)
    return (0, value)


def rank_of(fact):
    return (fact[0], len(fact), tuple([rank_of_value(value) for value in fact[1:]]))
