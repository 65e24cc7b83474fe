"""Points 37 and 38 as patterns of signs: what the program reads and refuses is held against them.

Nothing here is drawn from the package.
"""

import re

WORD = "[a-z][a-z0-9]{0,11}"
VARIABLE = "[A-Z][a-z0-9]{0,11}"
NUMBER = "(?:0|-?[1-9][0-9]{0,59})"
VALUE = f"(?:{NUMBER}|{WORD})"
TERM = f"(?:{VALUE}|{VARIABLE})"
ATOM = rf"{WORD}\((?:{TERM}(?:, {TERM}){{0,3}})?\)"
PLACE = rf"{WORD}\((?:{VALUE}(?:, {VALUE}){{0,3}})?\)"
FACT = f"{WORD}: {PLACE}"
CHOICE = f"{TERM} (?:=|!=|<) {TERM}"
BODY = f"(?:{ATOM}(?:; {ATOM})*(?:; {CHOICE})*|{CHOICE}(?:; {CHOICE})*)"
RULE = f"{ATOM}(?: if {BODY})?"
WAYS = "[1-9][0-9]{0,59}"
WHY = rf"(?:0|{WAYS}(?: {WORD})*(?: \+ {WAYS}(?: {WORD})*)*)"

# The signs that stand in texts, and some that are like them: of other scripts, raised ones, blanks of other kinds.
SIGNS = "a z A Z 0 1 9 ( ) , : ; = ! < > + - _ . \" ' { } \\ \0 \t \n \r \f \v \x1c \x85 \xa0 \xad \u2003 \u2028 \ufeff"
STRANGE_FIGURES = "\xb2 \xbd \u0663 \u0967 \uff11 \u2460 \u2070 \u2167 \U0001d7ce"
STRANGE_LETTERS = "\xdf \xe9 \xe0 \xc4 \xaa \u03b1 \u0430 \u0410 \u0131 \u212a \ud800"
ALL_SIGNS = [" "] + SIGNS.split(" ") + STRANGE_FIGURES.split(" ") + STRANGE_LETTERS.split(" ")

NO_TEXTS = [None, True, False, 0, 1, -7, 10 ** 70, [], ["p()"], ["p", ()], (), ("p()",), ("p", ()), ("a", "p", ()),
            (("p", ()), (), ()), [((), 1)], [[]], ((),)]


def is_written(pattern, text):
    return re.fullmatch(pattern, text, re.ASCII) is not None


def one_sign_changed(text):
    """All texts that come of a text by a sign left out, put in, or put in another's place, or by two changed about."""
    for place in range(len(text) + 1):
        for sign in ALL_SIGNS:
            yield text[:place] + sign + text[place:]
            yield text[:place] + sign + text[place + 1:]
        yield text[:place] + text[place + 1:]
        yield text[:place] + text[place + 1:place + 2] + text[place:place + 1] + text[place + 2:]
        # Its begin, its end, and three of its signs told twice.
        yield text[:place]
        yield text[place:]
        yield text[:place] + text[max(place - 3, 0):]


def parts_of_rule(text):
    """The atoms of the body and the choices of a text that is written as a rule."""
    body = text.partition(" if ")[2]
    parts = body.split("; ") if body else []
    return [part for part in parts if "(" in part], [part for part in parts if "(" not in part]


def variables_in_text(text):
    return set(re.findall(r"\b[A-Z][a-z0-9]*", text))


def is_rule_text(text):
    """Of a text that is written as a rule: whether it is one."""
    atoms, choices = parts_of_rule(text)
    known = set().union(*[variables_in_text(atom) for atom in atoms])
    asked = variables_in_text(text.partition(" if ")[0]).union(*[variables_in_text(choice) for choice in choices])
    return len(atoms) <= 3 and len(choices) <= 3 and asked <= known


def is_why_text(text):
    """Of a text that is written as a why: whether it stands in order, each product once."""
    products = [part.split(" ")[1:] for part in text.split(" + ")]
    in_order = all(names == sorted(names) for names in products)
    return text == "0" or (in_order and all(one < other for one, other in zip(products, products[1:])))
