"""What the instances of a rule give to a row: the sum of their products (points 22 and 23).

Sums and products of worths may be parted: what the atoms from a place on give is reckoned once for all bindings that
agree in what these atoms ask. So nothing is reckoned instance by instance, of which there may be very many.
"""

from whyrows.joins import all_hold, choices_known, steps_of
from whyrows.matching import matched, put_in
from whyrows.rules import variables_in


class Sums:
    def __init__(self, rule, tables, by, ahead):
        self.head_terms = rule[0][1]
        known = variables_in(rule[0][1])
        self.due = choices_known(rule[2], known)
        self.steps = steps_of(rule, tables, known, [])
        self.by = by
        self.ahead = ahead
        self.seen = {}

    def sum_for(self, row):
        binding = matched(self.head_terms, row, {})
        if binding is None or not all_hold(self.due, binding):
            return self.by.nought()
        return self.sum_from(0, binding)

    def sum_from(self, place, binding):
        if place == len(self.steps):
            return self.by.unit()
        mark = (place, put_in(self.steps[place].asks, binding))
        if mark not in self.seen:
            self.seen[mark] = self.sum_anew(place, binding)
        return self.seen[mark]

    def sum_anew(self, place, binding):
        step = self.steps[place]
        summed = self.by.nought()
        for row, together in step.joined_on(binding):
            worth = self.by.both(self.ahead[(step.table, row)], self.sum_from(place + 1, together))
            summed = self.by.either(summed, worth)
        return summed
