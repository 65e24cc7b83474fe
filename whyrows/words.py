"""What whole numbers, words, variables, values and rows are (points 2 and 4)."""

SMALL_LETTERS = "abcdefghijklmnopqrstuvwxyz"
CAPITAL_LETTERS = "ABCDEFGHIJKLMNOPQRSTUVWXYZ"
# Written out, since Python's own isalpha, isdigit and their like let letters and figures of all scripts by.
FURTHER_SIGNS = "abcdefghijklmnopqrstuvwxyz0123456789"
MOST_SIGNS = 12
MOST_VALUES = 4


def is_whole(thing):
    # To Python a truth is an int, too.
    return isinstance(thing, int) and not isinstance(thing, bool)


def is_text_begun_by(thing, first_signs):
    if not isinstance(thing, str) or not 1 <= len(thing) <= MOST_SIGNS:
        return False
    return thing[0] in first_signs and all([sign in FURTHER_SIGNS for sign in thing[1:]])


def is_word(thing):
    return is_text_begun_by(thing, SMALL_LETTERS)


def is_var(thing):
    return is_text_begun_by(thing, CAPITAL_LETTERS)


def is_value(thing):
    return is_whole(thing) or is_word(thing)


def is_row(thing):
    if not isinstance(thing, tuple) or len(thing) > MOST_VALUES:
        return False
    return all([is_value(part) for part in thing])
