"""Terms that match rows, terms put in, and choices that hold (points 17 and 18).

A binding has variables alone as its keys, and no value is written like a variable: what a binding hasn't is a value.
"""

from whyrows.orders import value_before
from whyrows.words import is_var


def matched(terms, row, binding):
    if len(terms) != len(row):
        return None
    bound = dict(binding)
    for term, value in zip(terms, row):
        if is_var(term):
            bound.setdefault(term, value)
        if bound.get(term, term) != value:
            return None
    return bound


def put_in(terms, binding):
    return tuple([binding.get(term, term) for term in terms])


def holds(choice, binding):
    sides = put_in(choice[1:], binding)
    if choice[0] == "=":
        return sides[0] == sides[1]
    if choice[0] == "!=":
        return sides[0] != sides[1]
    return value_before(sides[0], sides[1])
