"""Signs: a text as the list of its words, free words, numbers and marks."""

from whyfacts.errors import NoText
from whyfacts.words import GREAT_LETTERS, SMALL_LETTERS, all_small, is_free, is_short_text

FIGURES = "0123456789"
MOST_FIGURES = 9
MARKS = "(),.:?+-"
BETWEEN = " \n"


def is_run_sign(sign):
    return sign in SMALL_LETTERS or sign in GREAT_LETTERS or sign in FIGURES


# A `-` belongs to the figure right behind it, whatever stands ahead of it; else it is a mark.
def begins_run(text, place):
    if text[place] == "-":
        return place + 1 < len(text) and text[place + 1] in FIGURES
    return is_run_sign(text[place])


def end_of_run(text, begin):
    end = begin + 1
    while end < len(text) and is_run_sign(text[end]):
        end += 1
    return end


def is_number_text(run):
    figures = run[1:] if run.startswith("-") else run
    if len(figures) > MOST_FIGURES:
        return False
    if figures.startswith("0"):
        return run == "0"
    return all([sign in FIGURES for sign in figures])


def kind_of_run(run):
    if is_short_text(run) and all_small(run):
        return "word"
    if is_free(run):
        return "free"
    if is_number_text(run):
        return "number"
    raise NoText("a run of letters and figures is no word, no free word and no number")


def piece_at(text, place):
    if begins_run(text, place):
        run = text[place:end_of_run(text, place)]
        return (kind_of_run(run), run)
    if text[place] in MARKS:
        return ("mark", text[place])
    raise NoText("a sign has no place in a text")


def pieces_of(text):
    if not isinstance(text, str):
        raise NoText("only a text can be read")
    pieces = []
    place = 0
    while place < len(text):
        if text[place] in BETWEEN:
            place += 1
        else:
            piece = piece_at(text, place)
            pieces.append(piece)
            place += len(piece[1])
    return pieces
