"""Asking: the answers to a body over what is held."""

from whyfacts.bodies import fills_of
from whyfacts.forms import need_body, words_in
from whyfacts.words import rank_of_value


def answer_of(words, fill):
    return tuple([(word, fill[word]) for word in words])


def rank_of_answer(answer):
    return tuple([rank_of_value(value) for word, value in answer])


def answers_of(body, held):
    words = words_in(need_body(body))
    answers = [answer_of(words, fill) for fill, grounds in fills_of(body, held)]
    return sorted(answers, key=rank_of_answer)
