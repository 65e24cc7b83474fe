"""Whys in the place of worths, for the rounds of a run of whys (points 23 and 25).

A sum or product of whys, none of them [], never has fewer products than each of them. Whatever is reckoned of a row
that stands goes into its why, so it is given up as soon as anything has a product too many.
"""

from whyrows.errors import TooMuch
from whyrows.rounds import worths_by_round
from whyrows.whys import of_fact, plus, times

MOST_PRODUCTS = 50


class Growing:
    def nought(self):
        return []

    def unit(self):
        return [((), 1)]

    def either(self, one, other):
        summed = plus(one, other)
        if len(summed) > MOST_PRODUCTS:
            raise TooMuch("a row's why has more than fifty products")
        return summed

    def both(self, one, other):
        # Product by product, so that two long whys are given up ahead of all that they would come to.
        summed = []
        for pair in one:
            summed = self.either(summed, times([pair], other))
        return summed


def whys_of_facts(facts):
    return dict([(name, of_fact(name)) for name, table, row in facts])


def whys_by_round(facts, rules, rounds):
    return worths_by_round(facts, rules, rounds, Growing(), whys_of_facts(facts))
