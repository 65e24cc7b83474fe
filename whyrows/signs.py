"""The signs of which texts are made: whole numbers, words and variables as they are written (points 37 and 38)."""

from whyrows.errors import NoText
from whyrows.words import is_var, is_word

# Written out, since Python's own isdigit and int let figures of other scripts by.
FIGURES = "0123456789"
MOST_FIGURES = 60


def ask_written(truth):
    if not truth:
        raise NoText("this is not written as the document tells")


def ask_text(thing):
    ask_written(isinstance(thing, str))


def are_figures(text):
    return 1 <= len(text) <= MOST_FIGURES and all([sign in FIGURES for sign in text])


def is_written_number(text):
    figures = text[1:] if text.startswith("-") else text
    return are_figures(figures) and (text == "0" or figures[0] != "0")


def read_number(text):
    ask_written(is_written_number(text))
    return int(text)


def read_word(text):
    ask_written(is_word(text))
    return text


def read_term(text):
    return text if is_word(text) or is_var(text) else read_number(text)
