"""Point 3, over the whole program: whys, worths, trees, keepers, ledgers, texts and desks tell the same."""

import random
import unittest

from naive import some_runs
from whyrows.cheapest import cheapest
from whyrows.desk import Desk
from whyrows.errors import NoName, TooMuch
from whyrows.groves import tree_for, trees
from whyrows.keeper import Keeper
from whyrows.ledger import Ledger
from whyrows.reckonings import Bests, Costs, Counts, Hands, Trusts, Truths
from whyrows.runs import run
from whyrows.texts import read_fact, read_rule, show_atom, show_fact, show_rule
from whyrows.trees import height, leads_to, leaves
from whyrows.whyruns import why_run
from whyrows.whys import gathered
from whyrows.whytexts import read_why
from whyrows.worths import reckoned

RECKONINGS = [
    (Counts(), [0, 1, 2, 10 ** 59]), (Costs(), [None, -2, 0, 5, 10 ** 59]), (Bests(2), [[], [0], [-1, 4], [3, 3]]),
    (Trusts(9), [0, 3, 9]), (Truths(), [False, True]), (Hands(), [[], [()], [("x",)], [("x", "y"), ("z",)], [("y",)]]),
]
NAMES = "abcdefgh"


def drawn_runs(seed, many):
    for facts, rules, rounds, whys in some_runs(seed, many):
        if whys is not None:
            yield facts, rules, rounds, whys


def cost_of(tree, costs):
    parts = [costs[name] for name in leaves(tree)]
    return None if None in parts else sum(parts)


class WholeTest(unittest.TestCase):
    def test_the_whys_reckoned_are_the_worths(self):
        chance = random.Random(3)
        for facts, rules, rounds, whys in drawn_runs(300, 120):
            self.assertEqual(why_run(facts, rules, rounds), whys)
            for by, some in RECKONINGS:
                worths = {name: chance.choice(some) for name in NAMES}
                expected = [[(table, row, reckoned(why, by, worths)) for table, row, why in behind] for behind in whys]
                self.assertEqual(repr(run(facts, rules, rounds, by, worths)), repr(expected))

    def test_the_products_are_those_of_the_trees(self):
        chance = random.Random(4)
        seen = 0
        for facts, rules, rounds, whys in drawn_runs(301, 120):
            costs = {name: chance.choice([None, -2, 0, 1, 5, 5]) for name in NAMES}
            least_costs = run(facts, rules, rounds, Costs(), costs)[-1]
            for (table, row, why), (_, _, least_cost) in zip(whys[-1], least_costs):
                place = (facts, rules, rounds, table, row)
                if sum(ways for product, ways in why) <= 100:
                    found = trees(*place)
                    self.assertEqual(len(set(found)), len(found))
                    self.assertEqual(gathered([(leaves(tree), 1) for tree in found]), why)
                    seen += len(found)
                else:
                    self.assertRaises(TooMuch, trees, *place)
                    found = []
                found = found + [tree_for(*place, product) for product, ways in why]
                cheapest_tree = cheapest(facts, rules, rounds, costs, table, row)
                self.assertEqual(cheapest_tree is None, least_cost is None)
                if cheapest_tree is not None:
                    self.assertEqual(cost_of(cheapest_tree, costs), least_cost)
                    found.append(cheapest_tree)
                for tree in found:
                    self.assertEqual(leads_to(facts, rules, tree), (table, row))
                    self.assertLessEqual(height(tree), rounds)
        self.assertGreater(seen, 1000)

    def test_behind_any_row_of_deeds(self):
        chance = random.Random(5)
        deeds = 0
        for facts, rules, rounds, whys in drawn_runs(302, 100):
            keeper = Keeper(facts, rules, rounds)
            ledgers = [(by, {name: chance.choice(some) for name in NAMES}, Ledger(by)) for by, some in RECKONINGS]
            for by, prices, ledger in ledgers:
                for name, worth in prices.items():
                    ledger.price(name, worth)
                for table, row, why in whys[-1]:
                    ledger.enter(table, row, why)
            for number in range(6):
                fact = (chance.choice(NAMES), chance.choice("pq"), (chance.choice([1, 2, 3]),))
                deed = chance.choice(["put", "put", "move", "drop"])
                try:
                    changed = getattr(keeper, deed)(fact[0] if deed == "drop" else fact)
                except (NoName, TooMuch):
                    changed = []
                deeds += changed != []
                self.assertEqual(keeper.told(), why_run(keeper.facts_told(), rules, rounds))
                for by, prices, ledger in ledgers:
                    for table, row in changed:
                        ledger.enter(table, row, keeper.why(table, row))
                    expected = run(keeper.facts_told(), rules, rounds, by, prices)[-1]
                    self.assertEqual(repr(ledger.told()), repr(expected))
        self.assertGreater(deeds, 150)

    def test_as_texts(self):
        for facts, rules, rounds, whys in drawn_runs(303, 100):
            self.assertEqual([read_fact(show_fact(fact)) for fact in facts], facts)
            self.assertEqual([read_rule(show_rule(rule)) for rule in rules], rules)
            desk = Desk(rounds)
            # Facts may be told ahead of the rules or behind them.
            told = ["fact " + show_fact(fact) for fact in facts] + ["rule " + show_rule(rule) for rule in rules]
            for text in told if rounds % 2 == 0 else told[::-1]:
                desk.say(text)
            costs = run(facts, rules, rounds, Costs(), dict.fromkeys(NAMES, 1))[-1]
            for (table, row, why), (_, _, cost) in zip(whys[-1], costs):
                place = show_atom((table, row))
                self.assertEqual(read_why(desk.say("why " + place)), why)
                self.assertEqual(desk.say("cost " + place), str(cost))


if __name__ == "__main__":
    unittest.main()
