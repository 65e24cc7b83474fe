import copy
import itertools
import random
import unittest

from helpers import ODD_THINGS, SIXTY_FIGURES, HandedOver, alike, singles, within
from naive import naive_trees, some_runs
from whyrows.cheapest import cheapest
from whyrows.errors import NoFact, NoName, NoRounds, NoRule, NoWorth, TooMuch
from whyrows.reckonings import Costs
from whyrows.runs import run
from whyrows.trees import height, leads_to, leaves

MUCH = SIXTY_FIGURES
STEP = (("way", ("X", "Y")), (("edge", ("X", "Y")),), ())
LONGER = (("way", ("X", "Z")), (("edge", ("X", "Y")), ("way", ("Y", "Z"))), ())
TWICE = (("both", ("X",)), (("p", ("X",)), ("p", ("X",))), ())
FREE = (("p", (1,)), (), ())
CUBED = (("p", ()), (("p", ()),) * 3, ())
NET = [("a", "edge", (1, 2)), ("b", "edge", (2, 3)), ("c", "edge", (1, 3)), ("d", "edge", (3, 1))]
FACTS = [("a", "edge", (1, 2)), ("b", "edge", (2, 3)), ("c", "edge", (3, 1)), ("d", "edge", (1, 2)), ("e", "mark", ())]
THREE_FREE = (("p", ("X",)), ("p", ("Y",)), ("p", ("Z",)))
UNLIKE = (("!=", "X", "Y"), ("!=", "Y", "Z"), ("!=", "X", "Z"))


def cost_of(tree, costs):
    found = [costs[name] for name in leaves(tree)]
    return None if None in found else sum(found)


def worth_of(facts, rules, rounds, costs, table, row):
    """The worth of a pair behind the last round of the run by Costs, None where it doesn't stand."""
    told = run(facts, rules, rounds, Costs(), costs)[-1]
    return ([worth for other, other_row, worth in told if (other, other_row) == (table, row)] + [None])[0]


class CheapestTestCase(unittest.TestCase, HandedOver):
    def assert_cheapest(self, facts, rules, rounds, costs, table, row, expected):
        """`expected` is the tree's cost, None where no tree is due."""
        with self.subTest(facts=repr(facts)[:200], rules=repr(rules)[:200], rounds=rounds, costs=repr(costs)[:200],
                          pair=(table, row)):
            tree = cheapest(facts, rules, rounds, costs, table, row)
            self.assertEqual(worth_of(facts, rules, rounds, costs, table, row), expected)
            if expected is None:
                self.assertIsNone(tree)
            else:
                self.assertEqual(leads_to(facts, rules, tree), (table, row))
                self.assertLessEqual(height(tree), rounds)
                self.assertEqual(cost_of(tree, costs), expected)

            def call(handed_facts, handed_rules, handed_costs):
                return cheapest(handed_facts, handed_rules, rounds, handed_costs, table, row)

            self.assert_own_answer(call, lambda: (list(facts), list(rules), dict(costs)), tree)

    def assert_refused(self, error, facts, rules, rounds, costs, table="edge", row=(1, 2)):
        with self.subTest(error=error.__name__, facts=repr(facts)[:200], rules=repr(rules)[:200], rounds=rounds):
            before = copy.deepcopy((facts, rules, costs))
            with self.assertRaises(error) as caught:
                cheapest(facts, rules, rounds, costs, table, row)
            self.assertIs(caught.exception.__class__, error)
            self.assertEqual((facts, rules, costs), before)


class CheapestTest(CheapestTestCase):
    def test_facts_alone(self):
        costs = {"a": 5, "b": 1, "c": 0, "d": 3, "e": None}
        for rounds in range(6):
            self.assertEqual(cheapest(FACTS, [], rounds, costs, "edge", (1, 2)), "d")
            self.assertEqual(cheapest(FACTS, [STEP, LONGER], rounds, costs, "edge", (2, 3)), "b")
            for table, row, expected in [("edge", (1, 2), 3), ("edge", (2, 3), 1), ("edge", (3, 1), 0),
                                         ("mark", (), None)]:
                self.assert_cheapest(FACTS, [STEP], rounds, costs, table, row, expected)

    def test_a_row_with_no_tree(self):
        costs = dict.fromkeys("abcde", 1)
        for rounds in range(6):
            self.assert_cheapest([], [], rounds, {}, "p", (1,), None)
            self.assert_cheapest([], [STEP, LONGER], rounds, {}, "way", (1, 2), None)
            for table, row in [("edge", (2, 1)), ("way", ()), ("none", ()), ("mark", (1,)), ("edg", (1, 2))]:
                self.assert_cheapest(FACTS, [STEP, LONGER], rounds, costs, table, row, None)
        self.assert_cheapest(FACTS, [STEP], 0, costs, "way", (1, 2), None)
        self.assert_cheapest(FACTS, [STEP], 1, costs, "way", (1, 2), 1)

    def test_a_row_whose_trees_all_cost_none(self):
        self.assert_cheapest(FACTS, [STEP, LONGER], 3, dict.fromkeys("abcde"), "way", (1, 2), None)
        self.assert_cheapest(FACTS, [STEP, LONGER], 3, {"a": 1, "b": None, "c": 1, "d": 1, "e": 1}, "way", (1, 3), None)
        # One tree of several is enough, and what costs None is none of its leaves.
        self.assert_cheapest(FACTS, [STEP, LONGER], 3, {"a": None, "b": 7, "c": None, "d": 2, "e": None},
                             "way", (1, 3), 9)
        self.assert_cheapest(NET, [STEP, LONGER], 3, {"a": -MUCH, "b": None, "c": MUCH, "d": None}, "way", (1, 3), MUCH)

    def test_a_leaf_that_stands_several_times(self):
        for cost in (0, 1, 7, -3, MUCH, -MUCH):
            self.assert_cheapest([("a", "p", (1,))], [TWICE], 1, {"a": cost}, "both", (1,), 2 * cost)
            thrice = (("q", ()), (("p", ("X",)),) * 3, ())
            self.assert_cheapest([("a", "p", (1,))], [thrice], 1, {"a": cost}, "q", (), 3 * cost)
        # The cheaper one twice, whatever the dearer one costs.
        facts = [("a", "p", (1,)), ("b", "p", (1,))]
        self.assertEqual(cheapest(facts, [TWICE], 1, {"a": 2, "b": 1}, "both", (1,)), (0, (1,), ("b", "b")))
        self.assertEqual(cheapest(facts, [TWICE], 1, {"a": -2, "b": -1}, "both", (1,)), (0, (1,), ("a", "a")))

    def test_a_rule_with_an_empty_body_costs_nothing(self):
        self.assert_cheapest([], [FREE], 1, {}, "p", (1,), 0)
        self.assert_cheapest([], [FREE, TWICE], 2, {}, "both", (1,), 0)
        self.assert_cheapest([("a", "p", (1,))], [FREE], 1, {"a": 1}, "p", (1,), 0)
        self.assert_cheapest([("a", "p", (1,))], [FREE], 1, {"a": -1}, "p", (1,), -1)
        self.assert_cheapest([("a", "p", (1,))], [FREE], 1, {"a": None}, "p", (1,), 0)
        self.assert_cheapest([("a", "p", (1,))], [FREE], 0, {"a": 9}, "p", (1,), 9)
        self.assert_cheapest([("a", "p", (1,))], [(FREE[0], (), (("=", 1, 2),))], 2, {"a": 9}, "p", (1,), 9)

    def test_the_cheaper_way_through_a_net(self):
        for costs, expected in [
            ({"a": 1, "b": 1, "c": 5, "d": 1}, [None, 5, 2, 2]), ({"a": 1, "b": 5, "c": 5, "d": 1}, [None, 5, 5, 5]),
            # With costs below 0 a longer way is the cheaper one, as far as the rounds go.
            ({"a": 1, "b": 1, "c": 1, "d": -9}, [None, 1, 1, -7]),
            ({"a": MUCH, "b": -MUCH, "c": 1, "d": 0}, [None, 1, 0, 0]),
            ({"a": -MUCH, "b": -MUCH, "c": -MUCH, "d": -MUCH}, [None, -MUCH, -2 * MUCH, -3 * MUCH]),
        ]:
            for rounds in range(4):
                self.assert_cheapest(NET, [STEP, LONGER], rounds, costs, "way", (1, 3), expected[rounds])

    def test_trees_of_one_cost(self):
        for costs in (dict.fromkeys("abcd", 0), {"a": 1, "b": 1, "c": 2, "d": 5}):
            for rules in ([STEP, LONGER], [LONGER, STEP], [STEP, STEP, LONGER, LONGER]):
                expected = costs["c"]
                self.assert_cheapest(NET, rules, 4, costs, "way", (1, 3), expected)

    def test_a_cost_that_kids_only_have_together(self):
        # Each of the two atoms alone could be cheaper in another instance.
        facts = [("a", "p", (1,)), ("b", "p", (2,)), ("c", "q", (1,)), ("d", "q", (2,))]
        rule = (("r", ()), (("p", ("X",)), ("q", ("X",))), ())
        self.assertEqual(cheapest(facts, [rule], 1, {"a": 1, "b": 5, "c": 9, "d": 4}, "r", ()), (0, (), ("b", "d")))
        self.assertEqual(cheapest(facts, [rule], 1, {"a": 1, "b": None, "c": 9, "d": 4}, "r", ()), (0, (), ("a", "c")))
        self.assert_cheapest(facts, [rule], 1, {"a": 1, "b": None, "c": None, "d": 4}, "r", (), None)

    def test_rows_of_which_very_many_trees_tell(self):
        costs = {"n" + str(number): (number * 7) % 58 - 20 for number in range(58)}
        with within(60):
            for choices, expected in [((), -60), (UNLIKE[:1], -59), (UNLIKE, -57)]:
                rules = [(("q", ()), THREE_FREE, choices)] * 100
                tree = cheapest(singles(58), rules, 5, costs, "q", ())
                self.assertEqual(leads_to(singles(58), rules, tree), ("q", ()))
                self.assertEqual(cost_of(tree, costs), expected)
            for cost, expected in [(-MUCH, -243 * MUCH), (MUCH, MUCH), (0, 0)]:
                tree = cheapest([("a", "p", ())], [CUBED] * 300, 5, {"a": cost}, "p", ())
                self.assertEqual(leads_to([("a", "p", ())], [CUBED] * 300, tree), ("p", ()))
                self.assertEqual(cost_of(tree, {"a": cost}), expected)

    def test_more_than_fifty_products_are_none_too_many(self):
        facts = alike(300)
        costs = {name: 300 - place for place, (name, table, row) in enumerate(facts)}
        self.assertEqual(cheapest(facts, [], 3, costs, "p", ()), "n299")


class RefusedTest(CheapestTestCase):
    def test_no_fact_no_name_no_rule_no_rounds(self):
        costs = dict.fromkeys("abcdef", 1)
        for odd in [None, 1, "a", ("a", "t"), ["f", "t", (1,)], ("f", "t", [1]), ("F", "t", (1,)), ("f", "t", ("X",)),
                    ("f", "t", (True,))] + ODD_THINGS:
            self.assert_refused(NoFact, FACTS + [odd], [STEP], 1, costs)
            self.assert_refused(NoFact, [odd] + FACTS, [], 0, costs)
        self.assert_refused(NoName, FACTS + [("a", "t", (1,))], [STEP], 1, costs)
        for odd in [None, 1, "a", STEP[:2], list(STEP), (("p", ("X",)), (), ())] + ODD_THINGS:
            self.assert_refused(NoRule, FACTS, [STEP, odd], 1, costs)
        for odd in [-1, 6, MUCH, True, False, "1", None, [], (1,)] + ODD_THINGS:
            self.assert_refused(NoRounds, FACTS, [STEP], odd, costs)

    def test_a_name_that_the_dict_has_not(self):
        for name in "abcde":
            costs = {other: 1 for other in "abcdef" if other != name}
            for table, row in [("edge", (1, 2)), ("mark", ()), ("none", ())]:
                self.assert_refused(NoWorth, FACTS, [STEP], 2, costs, table, row)
                self.assert_refused(NoWorth, FACTS, [], 0, costs, table, row)
        self.assert_refused(NoWorth, FACTS, [STEP], 1, {})

    def test_a_worth_that_is_none_of_costs(self):
        for odd in [True, False, "1", "", [], [1], (), (1,), [None]]:
            for name in "ae":
                costs = dict.fromkeys("abcde", 1)
                costs[name] = odd
                self.assert_refused(NoWorth, FACTS, [STEP], 1, costs)
                self.assert_refused(NoWorth, FACTS, [STEP], 1, costs, "none", ())

    def test_other_names_do_not_matter(self):
        for odd in [True, "1", [], None, -MUCH, ()]:
            costs = {"a": 1, "b": 2, "c": 3, "d": 4, "e": 5, "f": odd, "z": odd, "edge": odd}
            self.assertEqual(cheapest(FACTS, [STEP], 1, costs, "way", (1, 2)), (0, (1, 2), ("a",)))
            self.assertEqual(cheapest([], [FREE], 1, costs, "p", (1,)), (0, (1,), ()))

    def test_sixty_rows_and_sixty_one(self):
        costs = {"n" + str(number): number for number in range(61)}
        for rounds in range(6):
            self.assertEqual(cheapest(singles(60), [], rounds, costs, "p", (3,)), "n3")
            self.assert_refused(TooMuch, singles(61), [], rounds, costs, "p", (3,))
            self.assert_refused(TooMuch, singles(61), [], rounds, costs, "none", ())
            self.assert_refused(TooMuch, singles(61), [], rounds, dict.fromkeys(costs), "p", (3,))
        burst = (("t", ("X", "Y", "Z")), THREE_FREE, ())
        with within(60):
            self.assert_refused(TooMuch, singles(59), [burst] * 300, 5, costs, "p", (3,))

    def test_several_faults_at_once(self):
        many = [("m" + str(number), "m", (number,)) for number in range(61)]
        for no_fact, no_name, no_rule, no_rounds, no_worth in itertools.product([False, True], repeat=5):
            facts = many + ([many[3]] if no_name else []) + ([("m", "m")] if no_fact else [])
            rules = [STEP] + ([(("p", ("X",)), (), ())] if no_rule else [])
            costs = {name: 1 for name, table, row in many}
            if no_worth:
                costs["m60"] = "1"
            expected = TooMuch
            for fault, error in [(no_worth, NoWorth), (no_rounds, NoRounds), (no_rule, NoRule), (no_fact, NoFact),
                                 (no_name, NoName)]:
                expected = error if fault else expected
            self.assert_refused(expected, facts, rules, 9 if no_rounds else 2, costs, "m", (3,))
        self.assert_refused(NoFact, [("m", "m")] + many * 2, [None], None, {})


class ManyTest(CheapestTestCase):
    def test_of_all_sorts(self):
        chance = random.Random(31)
        told, nothing, held = 0, 0, 0
        for facts, rules, rounds, expected in some_runs(31, 400):
            names = [name for name, table, row in facts]
            costs = {name: chance.choice([None, None, None, -MUCH, -7, -1, 0, 1, 2, MUCH]) for name in names}
            grown = naive_trees(facts, rules, 2 if rounds > 2 else rounds)
            for table, row, worth in run(facts, rules, rounds, Costs(), costs)[-1]:
                tree = cheapest(facts, rules, rounds, costs, table, row)
                if worth is None:
                    nothing += 1
                    self.assertIsNone(tree)
                else:
                    told += 1
                    self.assertEqual(leads_to(facts, rules, tree), (table, row))
                    self.assertLessEqual(height(tree), rounds)
                    self.assertEqual(cost_of(tree, costs), worth)
                if rounds <= 2 and len(grown[(table, row)]) < 500:
                    held += 1
                    found = [cost_of(other, costs) for other in grown[(table, row)]]
                    self.assertEqual(min([cost for cost in found if cost is not None], default=None), worth)
        self.assertGreater(min(told, nothing, held), 200)


if __name__ == "__main__":
    unittest.main()
