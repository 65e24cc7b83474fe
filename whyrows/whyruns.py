"""A run of whys (points 23, 24 and 25)."""

from whyrows.growing import whys_by_round
from whyrows.rounds import told_behind
from whyrows.rules import vet


def why_run(facts, rules, rounds):
    vet(facts, rules, rounds)
    return [told_behind(whys) for whys in whys_by_round(facts, rules, rounds)]
