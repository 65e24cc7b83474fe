"""What the instances of a rule give to a row: the sum of their products (points 22 and 23).

Sums and products of worths may be parted: what the atoms from a place on give is reckoned once for all bindings that
agree in what these atoms ask. So nothing is reckoned instance by instance, of which there may be very many.
"""

from whyrows.joins import all_hold, choices_known, steps_of
from whyrows.matching import matched, put_in
from whyrows.rules import variables_in


class Sums:
    def __init__(self, rule, tables, by, ahead):
        self.head_terms = rule[0][1]
        known = variables_in(rule[0][1])
        self.due = choices_known(rule[2], known)
        self.steps = steps_of(rule, tables, known, [])
        self.by = by
        self.ahead = ahead
        self.seen = {}

    def binding_for(self, row):
        binding = matched(self.head_terms, row, {})
        return binding if binding is not None and all_hold(self.due, binding) else None

    def pairs_from(self, place, binding):
        step = self.steps[place]
        return [((step.table, row), together) for row, together in step.joined_on(binding)]

    def sum_for(self, row):
        binding = self.binding_for(row)
        return self.by.nought() if binding is None else self.sum_from(0, binding)

    def sum_from(self, place, binding):
        if place == len(self.steps):
            return self.by.unit()
        mark = (place, put_in(self.steps[place].asks, binding))
        if mark not in self.seen:
            self.seen[mark] = self.sum_anew(place, binding)
        return self.seen[mark]

    def sum_anew(self, place, binding):
        summed = self.by.nought()
        for pair, together in self.pairs_from(place, binding):
            worth = self.by.both(self.ahead[pair], self.sum_from(place + 1, together))
            summed = self.by.either(summed, worth)
        return summed


# Rules that are written alike give the same, and so does a rule whose tables stayed as they were a round earlier: none
# of this is reckoned twice. Earlier are the sums of that round, or None.
class SumsByRule:
    def __init__(self, tables, by, ahead, earlier):
        self.tables = tables
        self.by = by
        self.ahead = ahead
        self.earlier = earlier
        self.stayed = {}
        self.by_rule = {}

    def sums_of(self, rule):
        if rule not in self.by_rule:
            self.by_rule[rule] = self.sums_again(rule)
        return self.by_rule[rule]

    def sums_again(self, rule):
        if self.earlier is not None and all([self.has_stayed(table) for table, terms in rule[1]]):
            return self.earlier.sums_of(rule)
        return Sums(rule, self.tables, self.by, self.ahead)

    def has_stayed(self, table):
        if table not in self.stayed:
            self.stayed[table] = self.worths_in(table) == self.earlier.worths_in(table)
        return self.stayed[table]

    def worths_in(self, table):
        return [(row, self.ahead[(table, row)]) for row in self.tables.get(table, [])]
