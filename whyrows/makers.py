"""What makes a row behind a round: the facts that have it, and the rules that lead to it (points 29 to 31).

Trees are built from the worths of the rounds, from the last one back. The sum of what the atoms of a body give from a
place on tells ahead of each step whether it leads to what is sought: so no step is ever taken back.
"""

from whyrows.rounds import in_tables
from whyrows.sums import SumsByRule


class Makers:
    def __init__(self, facts, rules, by, behind):
        self.rules = rules
        self.by = by
        self.behind = behind
        self.names = {}
        for name, table, row in facts:
            self.names.setdefault((table, row), []).append(name)
        self.sums_behind = {}

    def names_at(self, pair):
        return self.names.get(pair, [])

    def sums_from(self, number):
        if number not in self.sums_behind:
            ahead = self.behind[number]
            earlier = self.sums_from(number - 1) if number > 0 else None
            self.sums_behind[number] = SumsByRule(in_tables(ahead), self.by, ahead, earlier)
        return self.sums_behind[number]

    def rules_to(self, number, table):
        # Behind round 0 no rule has made anything yet.
        if number == 0:
            return []
        sums = self.sums_from(number - 1)
        return [(place, sums.sums_of(rule)) for place, rule in enumerate(self.rules) if rule[0][0] == table]


# One tree that has an aim, or None. What an aim is, the builders under this one tell: aim_of_name, that of a leaf;
# reaches, whether a worth has it; and parted, the aims of a kid and of the kids behind it, or None where it can't be.
class Builder:
    def __init__(self, makers):
        self.makers = makers

    def tree_at(self, number, pair, aim):
        for name in self.makers.names_at(pair):
            if self.aim_of_name(name) == aim:
                return name
        for place, sums in self.makers.rules_to(number, pair[0]):
            if self.reaches(sums.sum_for(pair[1]), aim):
                return (place, pair[1], self.kids_from(number - 1, sums, 0, sums.binding_for(pair[1]), aim))
        return None

    def kids_from(self, number, sums, place, binding, aim):
        if place == len(sums.steps):
            return ()
        for pair, together in sums.pairs_from(place, binding):
            parts = self.parted(aim, self.makers.behind[number][pair], sums.sum_from(place + 1, together))
            if parts is not None:
                kid = self.tree_at(number, pair, parts[0])
                return (kid,) + self.kids_from(number, sums, place + 1, together, parts[1])
        return None
