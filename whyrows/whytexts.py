"""Whys as they are written and read (points 37 and 38)."""

from whyrows.signs import ask_text, ask_written, read_number, read_word
from whyrows.whys import is_why

NO_PRODUCT = "0"


def show_product(product, ways):
    return " ".join([str(ways)] + list(product))


def show_why(why):
    if why == []:
        return NO_PRODUCT
    return " + ".join([show_product(product, ways) for product, ways in why])


def read_product(text):
    parts = text.split(" ")
    return (tuple([read_word(part) for part in parts[1:]]), read_number(parts[0]))


def read_why(text):
    ask_text(text)
    if text == NO_PRODUCT:
        return []
    why = [read_product(part) for part in text.split(" + ")]
    ask_written(is_why(why))
    return why
