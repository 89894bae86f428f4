"""The desk: a program and its facts from a text, and answers to lines."""

from whyfacts.asking import answers_of
from whyfacts.drawing import drawn
from whyfacts.errors import BadWidth, NoFact, NoText, TooMany, Unbound
from whyfacts.forms import words_in
from whyfacts.keeping import Keep
from whyfacts.reading import read_body, read_fact, read_program
from whyfacts.writing import shown_fact


def fact_rows(mark, facts):
    return [mark + " " + shown_fact(fact) + "." for fact in facts]


def change_rows(pair):
    rows = fact_rows("+", pair[0]) + fact_rows("-", pair[1])
    return rows if len(rows) > 0 else ["nothing"]


def answer_row(answer):
    return ", ".join([word + " = " + str(value) for word, value in answer])


def answer_rows(body, held):
    answers = answers_of(body, held)
    if len(answers) == 0:
        return ["no"]
    if len(words_in(body)) == 0:
        return ["yes"]
    return [answer_row(answer) for answer in answers]


def rows_said(keep, line):
    if not isinstance(line, str):
        raise NoText("a line is a text")
    said = line.partition(" ")
    if said[0] == "+":
        return change_rows(keep.put([read_fact(said[2])]))
    if said[0] == "-":
        return change_rows(keep.take([read_fact(said[2])]))
    if said[0] == "?":
        return answer_rows(read_body(said[2]), keep.store().held())
    if said[0] == "why":
        return drawn(keep.why(read_fact(said[2])))
    raise NoText("a line begins with +, -, ? or why and a blank")


class Desk:
    def __init__(self, text):
        pair = read_program(text)
        self.keep = Keep(pair[0])
        self.keep.put(pair[1])

    def say(self, line):
        try:
            return rows_said(self.keep, line)
        except NoText:
            return ["no text"]
        except Unbound:
            return ["unbound"]
        except BadWidth:
            return ["bad width"]
        except TooMany:
            return ["too many"]
        except NoFact:
            return ["no fact"]
