"""The rows that a rule makes in some tables (point 21), without its instances one by one.

There may be very many instances of one row. Of bindings that agree in all that is asked later one is walked on, and
none as soon as it leads to a row that stands already.
"""

from whyrows.joins import all_hold, choices_known, steps_of
from whyrows.matching import put_in
from whyrows.rules import variables_in


# One by one, since there may be far more rows than a run that is given up should wait for.
class Heads:
    def __init__(self, rule, tables):
        self.head = rule[0]
        self.steps = steps_of(rule, tables, [], variables_in(rule[0][1]))
        self.begun = [(0, {})] if all_hold(choices_known(rule[2], []), {}) else []
        self.seen = {}

    def following(self, standing):
        while len(self.begun) > 0:
            top = self.begun.pop()
            # A variable that is not bound yet stays as it is, and then this is no row that could stand.
            row = put_in(self.head[1], top[1])
            if (self.head[0], row) not in standing:
                if top[0] == len(self.steps):
                    return row
                self.begin_on(top[0], top[1])
        return None

    def begin_on(self, place, binding):
        mark = (place, put_in(self.steps[place].asks, binding))
        if mark not in self.seen:
            self.seen[mark] = True
            self.begun.extend([(place + 1, together) for used, together in self.steps[place].joined_on(binding)])
