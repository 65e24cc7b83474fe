"""A run of worths by a reckoning (points 22, 24 and 25)."""

from whyrows.rounds import told_by_round
from whyrows.rules import vet
from whyrows.worths import ask_worths


def run(facts, rules, rounds, by, worths):
    vet(facts, rules, rounds)
    ask_worths([name for name, table, row in facts], by, worths)
    return told_by_round(facts, rules, rounds, by, worths)
