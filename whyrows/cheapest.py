"""A cheapest tree of a row (point 31)."""

from whyrows.makers import Builder, Makers
from whyrows.reckonings import Costs
from whyrows.rounds import worths_by_round
from whyrows.rules import vet
from whyrows.worths import ask_worths


class CostBuilder(Builder):
    def __init__(self, makers, costs):
        Builder.__init__(self, makers)
        self.costs = costs

    def aim_of_name(self, name):
        return self.costs[name]

    def reaches(self, cost, aim):
        return cost == aim

    def parted(self, aim, cost, further):
        return (cost, further) if self.makers.by.both(cost, further) == aim else None


def cheapest(facts, rules, rounds, costs, table, row):
    vet(facts, rules, rounds)
    ask_worths([fact[0] for fact in facts], Costs(), costs)
    worths = worths_by_round(facts, rules, rounds, Costs(), costs)
    least_cost = worths[rounds].get((table, row), None)
    if least_cost is None:
        return None
    return CostBuilder(Makers(facts, rules, Costs(), worths), costs).tree_at(rounds, (table, row), least_cost)
