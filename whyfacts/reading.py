"""Reading: texts of facts, bodies and rules, into the tuples that they tell."""

from whyfacts.errors import NoText
from whyfacts.forms import GATHER_KINDS, TERM_COUNTS, are_keys, is_body, is_fact, is_pattern, words_in
from whyfacts.signs import pieces_of
from whyfacts.words import is_free, is_name


# A piece's text alone tells which kind it is of, so a word or a mark is looked for by its text.
class Reader:
    def __init__(self, text):
        self.pieces = pieces_of(text)
        self.place = 0

    def is_done(self):
        return self.place == len(self.pieces)

    def sees(self, text):
        return not self.is_done() and self.pieces[self.place][1] == text

    def sees_kind(self, kind):
        return not self.is_done() and self.pieces[self.place][0] == kind

    def taken(self):
        if self.is_done():
            raise NoText("the text ends too early")
        self.place += 1
        return self.pieces[self.place - 1]

    def takes(self, text):
        if not self.sees(text):
            return False
        self.place += 1
        return True

    def need(self, text):
        if not self.takes(text):
            raise NoText(f"a {text} is missing")

    def need_done(self):
        if not self.is_done():
            raise NoText("something stands behind the end")


def read_free(reader):
    word = reader.taken()[1]
    if not is_free(word):
        raise NoText(f"{word} is no free word")
    return word


def read_term(reader):
    piece = reader.taken()
    if piece[0] == "number":
        return int(piece[1])
    if is_name(piece[1]) or is_free(piece[1]):
        return piece[1]
    raise NoText("a term is a name, a number or a free word")


def read_terms(reader):
    reader.need("(")
    terms = [read_term(reader)]
    while reader.takes(","):
        terms.append(read_term(reader))
    reader.need(")")
    return tuple(terms)


def read_pattern(reader):
    pattern = (reader.taken()[1],)
    if reader.sees("("):
        pattern = pattern + read_terms(reader)
    if not is_pattern(pattern):
        raise NoText("a pattern is a name and at most four terms")
    return pattern


# Whether a test has as many terms as it should is left to read_parts.
def read_part(reader):
    if reader.takes("not"):
        return ("not", read_pattern(reader))
    for word in TERM_COUNTS:
        if reader.takes(word):
            return (word,) + read_terms(reader)
    return ("has", read_pattern(reader))


def read_parts(reader):
    parts = [read_part(reader)]
    while reader.takes(","):
        parts.append(read_part(reader))
    if not is_body(tuple(parts)):
        raise NoText("a body is of at most six parts, and each test of its own number of terms")
    return tuple(parts)


def read_kind(reader):
    word = reader.taken()[1]
    if word not in GATHER_KINDS:
        raise NoText(f"{word} is no kind of gather")
    return word


def read_keys(reader):
    if not reader.takes("by"):
        return ()
    keys = [read_free(reader)]
    while reader.takes(","):
        keys.append(read_free(reader))
    if not are_keys(tuple(keys)):
        raise NoText("a gather has at most three keys, all different")
    return tuple(keys)


def read_gather(reader, head):
    result = read_free(reader)
    reader.need("is")
    kind = read_kind(reader)
    value = "" if kind == "count" else read_free(reader)
    keys = read_keys(reader)
    reader.need(":")
    body = read_parts(reader)
    if result in words_in(body):
        raise NoText("the result of a gather stands in its body")
    return ("gather", head, kind, result, value, keys, body)


# Only a gather has a free word right behind its if: no part begins with one.
def read_rule(reader, head):
    if reader.sees_kind("free"):
        return read_gather(reader, head)
    return ("rule", head, read_parts(reader))


def without_free_words(pattern):
    if not is_fact(pattern):
        raise NoText("a fact has no free words")
    return pattern


def read_program(text):
    reader = Reader(text)
    rules = []
    facts = []
    while not reader.is_done():
        head = read_pattern(reader)
        if reader.takes("if"):
            rules.append(read_rule(reader, head))
        else:
            facts.append(without_free_words(head))
        reader.need(".")
    return (rules, facts)


def read_fact(text):
    reader = Reader(text)
    fact = without_free_words(read_pattern(reader))
    reader.need(".")
    reader.need_done()
    return fact


def read_body(text):
    reader = Reader(text)
    body = read_parts(reader)
    reader.need(".")
    reader.need_done()
    return body
