"""All trees of a row within some rounds, and a tree for a product (points 29 and 30)."""

from whyrows.errors import TooMuch
from whyrows.growing import Growing, whys_by_round
from whyrows.makers import Builder, Makers
from whyrows.reckonings import Counts
from whyrows.rounds import worths_by_round
from whyrows.rules import vet

MOST_TREES = 100


class Grove:
    def __init__(self, makers):
        self.makers = makers
        self.found = {}

    def trees_at(self, number, pair):
        mark = (number, pair)
        if mark not in self.found:
            self.found[mark] = self.trees_anew(number, pair)
        return self.found[mark]

    def trees_anew(self, number, pair):
        found = list(self.makers.names_at(pair))
        for place, sums in self.makers.rules_to(number, pair[0]):
            binding = sums.binding_for(pair[1])
            if binding is not None:
                found.extend([(place, pair[1], kids) for kids in self.all_kids(number - 1, sums, 0, binding)])
        return found

    def all_kids(self, number, sums, place, binding):
        if place == len(sums.steps):
            return [()]
        found = []
        for pair, together in sums.pairs_from(place, binding):
            # Counted 0 is what leads nowhere: of a row used there, there may be far more trees than can be listed.
            if sums.sum_from(place + 1, together) > 0:
                further = self.all_kids(number, sums, place + 1, together)
                for tree in self.trees_at(number, pair):
                    found.extend([(tree,) + kids for kids in further])
        return found


def trees(facts, rules, rounds, table, row):
    vet(facts, rules, rounds)
    ones = dict([(fact[0], 1) for fact in facts])
    counts = worths_by_round(facts, rules, rounds, Counts(), ones)
    if counts[rounds].get((table, row), 0) > MOST_TREES:
        raise TooMuch("more than a hundred trees lead there")
    return Grove(Makers(facts, rules, Counts(), counts)).trees_at(rounds, (table, row))


def left_of(product, part):
    # Both are in order, so what stands in both is met in one walk.
    left = []
    met = 0
    for name in product:
        if met < len(part) and part[met] == name:
            met = met + 1
        else:
            left.append(name)
    return tuple(left) if met == len(part) else None


class ProductBuilder(Builder):
    def aim_of_name(self, name):
        return (name,)

    def reaches(self, why, product):
        return any([other == product for other, ways in why])

    def parted(self, product, why, further):
        ways_further = dict(further)
        for part, ways in why:
            left = left_of(product, part)
            if left is not None and left in ways_further:
                return (part, left)
        return None


def tree_for(facts, rules, rounds, table, row, product):
    vet(facts, rules, rounds)
    whys = whys_by_round(facts, rules, rounds)
    return ProductBuilder(Makers(facts, rules, Growing(), whys)).tree_at(rounds, (table, row), product)
