"""Atoms, facts and rules as they are written and read (points 37 and 38).

Within an atom a blank stands behind a comma alone, and neither a colon nor a semicolon stands in one: so a text that
is written as it should be falls apart at these signs in one way only, also where a word is `if`.
"""

from whyrows.errors import NoRule
from whyrows.rules import SIGNS, is_rule, variables_in
from whyrows.signs import ask_text, ask_written, read_term, read_word
from whyrows.words import MOST_VALUES


def show_terms(terms):
    listed = ", ".join([str(term) for term in terms])
    return f"({listed})"


def show_atom(atom):
    return atom[0] + show_terms(atom[1])


def show_fact(fact):
    return fact[0] + ": " + show_atom(fact[1:])


def show_choice(choice):
    return " ".join([str(choice[1]), choice[0], str(choice[2])])


def show_rule(rule):
    parts = [show_atom(atom) for atom in rule[1]] + [show_choice(choice) for choice in rule[2]]
    if parts == []:
        return show_atom(rule[0])
    return show_atom(rule[0]) + " if " + "; ".join(parts)


def read_terms(text):
    if text == "":
        return ()
    terms = tuple([read_term(part) for part in text.split(", ")])
    ask_written(len(terms) <= MOST_VALUES)
    return terms


def read_atom(text):
    ask_text(text)
    parts = text.partition("(")
    # Where there is no bracket at all, nothing is behind it that could end with one.
    ask_written(parts[2].endswith(")"))
    return (read_word(parts[0]), read_terms(parts[2][:-1]))


def read_place(text):
    atom = read_atom(text)
    ask_written(variables_in(atom[1]) == [])
    return atom


def read_fact(text):
    ask_text(text)
    parts = text.partition(": ")
    return (read_word(parts[0]),) + read_place(parts[2])


def read_choice(text):
    parts = text.split(" ")
    ask_written(len(parts) == 3 and parts[1] in SIGNS)
    return (parts[1], read_term(parts[0]), read_term(parts[2]))


def many_atoms(parts):
    # A bracket stands in every atom, and in no choice.
    many = 0
    while many < len(parts) and "(" in parts[many]:
        many = many + 1
    return many


def read_body(text):
    parts = text.split("; ")
    many = many_atoms(parts)
    atoms = tuple([read_atom(part) for part in parts[:many]])
    return (atoms, tuple([read_choice(part) for part in parts[many:]]))


def read_rule(text):
    ask_text(text)
    parts = text.partition(" if ")
    head = read_atom(parts[0])
    rule = (head, (), ()) if parts[1] == "" else (head,) + read_body(parts[2])
    if not is_rule(rule):
        raise NoRule("this is written as a rule, but it is none")
    return rule
