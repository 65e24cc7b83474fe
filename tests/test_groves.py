import copy
import itertools
import unittest

from helpers import ODD_THINGS, SIXTY_FIGURES, HandedOver, alike, singles, within
from naive import naive_trees, some_runs
from whyrows.errors import NoFact, NoName, NoRounds, NoRule, TooMuch
from whyrows.groves import tree_for, trees
from whyrows.reckonings import Counts
from whyrows.runs import run
from whyrows.trees import height, leads_to, leaves
from whyrows.whyruns import why_run
from whyrows.whys import gathered

MUCH = SIXTY_FIGURES
STEP = (("way", ("X", "Y")), (("edge", ("X", "Y")),), ())
LONGER = (("way", ("X", "Z")), (("edge", ("X", "Y")), ("way", ("Y", "Z"))), ())
TWICE = (("both", ("X",)), (("p", ("X",)), ("p", ("X",))), ())
FREE = (("p", (1,)), (), ())
LOOP = (("p", ("X",)), (("p", ("X",)),), ())
CUBED = (("p", ()), (("p", ()),) * 3, ())
FACTS = [("a", "edge", (1, 2)), ("b", "edge", (2, 3)), ("c", "edge", (3, 1)), ("d", "edge", (1, 2)), ("e", "mark", ())]
ROUND_TRIP = [("a", "edge", (1, 2)), ("b", "edge", (2, 1))]
THREE_FREE = (("p", ("X",)), ("p", ("Y",)), ("p", ("Z",)))
UNLIKE = (("!=", "X", "Y"), ("!=", "Y", "Z"), ("!=", "X", "Z"))


class GroveTestCase(unittest.TestCase, HandedOver):
    def assert_refused(self, error, call, facts, rules, rounds, *asked):
        with self.subTest(error=error.__name__, facts=repr(facts)[:200], rules=repr(rules)[:200], rounds=rounds):
            before = copy.deepcopy((facts, rules))
            with self.assertRaises(error) as caught:
                call(facts, rules, rounds, *asked)
            self.assertIs(caught.exception.__class__, error)
            self.assertEqual((facts, rules), before)

    def assert_vetted(self, call, *asked):
        """What point 20 tells, each fault alone."""
        for odd in [None, 1, "a", ("a", "t"), ["f", "t", (1,)], ("f", "t", [1]), ("F", "t", (1,)), ("f", "t", ("X",)),
                    ("f", "t", (True,))] + ODD_THINGS:
            self.assert_refused(NoFact, call, FACTS + [odd], [STEP], 1, *asked)
            self.assert_refused(NoFact, call, [odd] + FACTS, [], 0, *asked)
        self.assert_refused(NoName, call, FACTS + [("a", "t", (1,))], [STEP], 1, *asked)
        self.assert_refused(NoName, call, FACTS + FACTS[:1], [], 0, *asked)
        for odd in [None, 1, "a", STEP[:2], list(STEP), (("p", ("X",)), (), ())] + ODD_THINGS:
            self.assert_refused(NoRule, call, FACTS, [STEP, odd], 1, *asked)
            self.assert_refused(NoRule, call, [], [odd], 0, *asked)
        for odd in [-1, 6, MUCH, True, False, "1", None, [], (1,)] + ODD_THINGS:
            self.assert_refused(NoRounds, call, FACTS, [STEP], odd, *asked)
            self.assert_refused(NoRounds, call, [], [], odd, *asked)
        self.assert_refused(NoName, call, [FACTS[0], FACTS[0], None], [], 1, *asked)
        self.assert_refused(NoFact, call, [FACTS[0], None, FACTS[0]], [], 1, *asked)

    def assert_in_order(self, call, too_many, *asked):
        """Several faults at once; the facts are too many in themselves."""
        for no_fact, no_name, no_rule, no_rounds in itertools.product([False, True], repeat=4):
            facts = too_many + ([too_many[3]] if no_name else []) + ([("m", "m")] if no_fact else [])
            rules = [STEP] + ([(("p", ("X",)), (), ())] if no_rule else [])
            expected = TooMuch
            for fault, error in [(no_rounds, NoRounds), (no_rule, NoRule), (no_fact, NoFact), (no_name, NoName)]:
                expected = error if fault else expected
            self.assert_refused(expected, call, facts, rules, 9 if no_rounds else 2, *asked)
        self.assert_refused(NoFact, call, [("m", "m")] + too_many * 2, [None], None, *asked)


class TreesTest(GroveTestCase):
    def assert_trees(self, facts, rules, rounds, table, row, expected):
        with self.subTest(facts=repr(facts)[:200], rules=repr(rules)[:200], rounds=rounds, pair=(table, row)):
            found = trees(facts, rules, rounds, table, row)
            self.assertIs(found.__class__, list)
            self.assertEqual(len(set(found)), len(found))
            self.assertEqual(set(found), set(expected))
            for tree in found:
                self.assertEqual(leads_to(facts, rules, tree), (table, row))
                self.assertLessEqual(height(tree), rounds)

            def call(handed_facts, handed_rules):
                return trees(handed_facts, handed_rules, rounds, table, row)

            self.assert_own_answer(call, lambda: (list(facts), list(rules)), found)

    def assert_all_trees(self, facts, rules, rounds):
        """Held against all trees tried out."""
        for (table, row), expected in naive_trees(facts, rules, rounds).items():
            self.assert_trees(facts, rules, rounds, table, row, expected)

    def test_no_facts_and_no_rules(self):
        for rounds in range(6):
            self.assert_trees([], [], rounds, "p", (1,), [])
            self.assert_trees([], [STEP, LONGER], rounds, "way", (1, 2), [])
            self.assert_trees([], [STEP, LONGER], rounds, "edge", (), [])
            self.assert_trees(FACTS, [], rounds, "edge", (2, 3), ["b"])
            self.assert_trees(FACTS, [], rounds, "mark", (), ["e"])

    def test_no_rounds(self):
        self.assert_trees(FACTS, [STEP, LONGER, FREE], 0, "edge", (1, 2), ["a", "d"])
        self.assert_trees(FACTS, [STEP, LONGER, FREE], 0, "way", (1, 2), [])
        self.assert_trees(FACTS, [STEP, LONGER, FREE], 0, "p", (1,), [])

    def test_a_row_that_does_not_stand(self):
        for rounds in range(4):
            for table, row in [("way", (2, 1, 3)), ("way", ()), ("edge", (2, 1)), ("edge", ("a", 2)), ("mark", (1,)),
                               ("edge", (MUCH, 2)), ("none", ()), ("none", (1, 2)), ("edg", (1, 2)), ("edge2", (1, 2))]:
                self.assert_trees(FACTS, [STEP, LONGER], rounds, table, row, [])
        # It stands behind a later round alone.
        self.assert_trees(FACTS, [STEP, LONGER], 1, "way", (1, 3), [])
        self.assertNotEqual(trees(FACTS, [STEP, LONGER], 2, "way", (1, 3)), [])

    def test_several_facts_of_one_row(self):
        facts = [(name, "p", (1,)) for name in ("b", "c", "a10", "a9")] + [("d", "q", (1,))]
        self.assert_trees(facts, [], 2, "p", (1,), ["b", "c", "a10", "a9"])
        rule = (("r", ("X",)), (("p", ("X",)), ("q", ("X",))), ())
        self.assert_trees(facts, [rule], 2, "r", (1,), [(0, (1,), (name, "d")) for name in ("b", "c", "a10", "a9")])
        self.assert_trees(facts, [rule], 2, "q", (1,), ["d"])

    def test_two_rules_that_are_written_alike(self):
        for many in range(1, 5):
            self.assert_trees(FACTS, [STEP] * many, 1, "way", (2, 3), [(n, (2, 3), ("b",)) for n in range(many)])
        self.assert_trees([], [FREE] * 3, 1, "p", (1,), [(0, (1,), ()), (1, (1,), ()), (2, (1,), ())])
        # Of either kid there are two, and so there are of the rule.
        expected = [(place, (1,), ((one, (1,), ()), (other, (1,), ())))
                    for place in (2, 3) for one in (0, 1) for other in (0, 1)]
        self.assert_trees([], [FREE, FREE, TWICE, TWICE], 2, "both", (1,), expected)

    def test_a_rule_that_uses_one_row_twice(self):
        facts = [("a", "p", (1,)), ("b", "p", (1,)), ("c", "p", (1,))]
        self.assert_trees(facts, [TWICE], 1, "both", (1,),
                          [(0, (1,), kids) for kids in itertools.product("abc", repeat=2)])
        thrice = (("q", ()), (("p", ("X",)),) * 3, ())
        self.assert_trees(facts, [thrice], 3, "q", (), [(0, (), kids) for kids in itertools.product("abc", repeat=3)])

    def test_a_rule_with_an_empty_body(self):
        for rounds in range(1, 6):
            self.assert_trees([], [FREE], rounds, "p", (1,), [(0, (1,), ())])
            self.assert_trees([("a", "p", (1,))], [FREE], rounds, "p", (1,), ["a", (0, (1,), ())])
            self.assert_trees([], [(FREE[0], (), (("<", 2, 1),))], rounds, "p", (1,), [])
            self.assert_trees([], [(FREE[0], (), (("<", 1, 2),))], rounds, "p", (1,), [(0, (1,), ())])
        self.assert_trees([], [FREE, TWICE], 2, "both", (1,), [(1, (1,), ((0, (1,), ()), (0, (1,), ())))])

    def test_rules_that_go_round_through_all_rounds(self):
        for rounds in range(6):
            expected = ["a"]
            tree = "a"
            for number in range(rounds):
                tree = (0, (1,), (tree,))
                expected.append(tree)
            self.assert_trees([("a", "p", (1,))], [LOOP], rounds, "p", (1,), expected)
            self.assert_all_trees(ROUND_TRIP, [STEP, LONGER], rounds)
        # There and back, and there once more; the further trees stand within more rounds.
        there = (0, (1, 2), ("a",))
        longer = (1, (1, 2), ("a", (1, (2, 2), ("b", there))))
        self.assert_trees(ROUND_TRIP, [STEP, LONGER], 2, "way", (1, 2), [there])
        self.assert_trees(ROUND_TRIP, [STEP, LONGER], 4, "way", (1, 2), [there, longer])
        self.assert_trees(ROUND_TRIP, [STEP, LONGER], 5, "way", (1, 2),
                          [there, longer, (1, (1, 2), ("a", (1, (2, 2), ("b", longer))))])

    def test_a_row_that_is_a_facts_and_comes_of_rules(self):
        facts = [("a", "edge", (1, 2)), ("b", "way", (1, 2)), ("c", "way", (2, 2))]
        self.assert_trees(facts, [STEP, LONGER], 1, "way", (1, 2), ["b", (0, (1, 2), ("a",)), (1, (1, 2), ("a", "c"))])
        self.assert_all_trees(facts, [STEP, LONGER], 3)

    def test_choices_lengths_and_values(self):
        facts = [("a", "t", ()), ("b", "t", (1,)), ("c", "t", (1, 2)), ("d", "t", ("a", 2, 3, 4)), ("e", "t", (MUCH,))]
        rules = [(("t", ("X", "Y", "X")), (("t", ("X", "Y")),), ()),
                 (("t", ("X",)), (("t", ()), ("t", ("X", "Y", "Z", "W"))), ()),
                 (("q", ("X", -MUCH)), (("t", ("X",)), ("t", ("Y",)), ("t", ("Z",))),
                  (("<", "Y", "X"), ("!=", "Z", 1)))]
        for rounds in range(4):
            self.assert_all_trees(facts, rules, rounds)
        self.assertEqual(len(trees(facts, rules, 2, "q", ("a", -MUCH))), 4)

    def test_more_than_fifty_products_are_none_too_many(self):
        self.assert_trees(alike(51), [], 3, "p", (), ["n" + str(number) for number in range(51)])
        self.assert_trees(alike(100), [], 3, "p", (), ["n" + str(number) for number in range(100)])
        # Far more products of another row.
        rule = (("q", ()), (("p", ()),) * 3, ())
        with within(60):
            self.assert_trees(alike(90) + [("z", "r", ())], [rule], 5, "r", (), ["z"])
            self.assert_trees(alike(90), [rule], 5, "p", (), ["n" + str(number) for number in range(90)])

    def test_vetted(self):
        self.assert_vetted(trees, "edge", (1, 2))
        self.assert_in_order(trees, [("m" + str(n), "m", (n,)) for n in range(61)], "m", (3,))
        self.assert_in_order(trees, [("m" + str(n), "m", ()) for n in range(101)], "m", ())


class TooManyTreesTest(GroveTestCase):
    def test_a_hundred_and_a_hundred_and_one(self):
        for rounds in range(6):
            self.assertEqual(sorted(trees(alike(100), [], rounds, "p", ())), sorted(f"n{n}" for n in range(100)))
            self.assert_refused(TooMuch, trees, alike(101), [], rounds, "p", ())
        # Of several rows, and of several rules.
        rule = (("q", ()), (("p", ("X",)),), ())
        for many, more in [(50, 2), (20, 5), (25, 4), (10, 10)]:
            found = trees(singles(many), [rule] * more, 1, "q", ())
            self.assertEqual(len(set(found)), 100)
            self.assert_refused(TooMuch, trees, singles(many) + [("z", "q", ())], [rule] * more, 1, "q", ())
            self.assert_refused(TooMuch, trees, singles(many), [rule] * more + [(("q", ()), (), ())], 1, "q", ())
        # Of kids: ten by ten, and a fact more.
        pair = (("r", ()), (("p", ()), ("q", ())), ())
        facts = alike(10) + alike(10, "q", "m")
        self.assertEqual(len(set(trees(facts, [pair], 1, "r", ()))), 100)
        self.assert_refused(TooMuch, trees, facts + [("z", "r", ())], [pair], 1, "r", ())
        self.assert_refused(TooMuch, trees, facts + [("z", "p", ())], [pair], 1, "r", ())

    def test_within_more_rounds_too_many(self):
        # Each round doubles what stands, and adds the fact: 1, 3, 7, 15, 31, 63 trees; of two facts 2, 6, .., 62, 126.
        for rounds in range(6):
            self.assertEqual(len(set(trees([("a", "p", (1,))], [LOOP] * 2, rounds, "p", (1,)))), 2 ** (rounds + 1) - 1)
        facts = [("a", "p", (1,)), ("b", "p", (1,))]
        self.assertEqual(len(set(trees(facts, [LOOP] * 2, 4, "p", (1,)))), 62)
        self.assert_refused(TooMuch, trees, facts, [LOOP] * 2, 5, "p", (1,))

    def test_another_row_has_too_many(self):
        rule = (("q", ()), (("p", ()), ("p", ())), ())
        facts = alike(11) + [("z", "r", ())]
        self.assert_refused(TooMuch, trees, facts, [rule], 1, "q", ())
        self.assertEqual(len(trees(facts, [rule], 1, "p", ())), 11)
        self.assertEqual(trees(facts, [rule], 1, "r", ()), ["z"])
        self.assertEqual(trees(facts, [rule], 1, "s", ()), [])

    def test_very_many(self):
        with within(60):
            self.assert_refused(TooMuch, trees, alike(300), [CUBED] * 300, 5, "p", ())
            self.assert_refused(TooMuch, trees, [("a", "p", ())], [CUBED], 5, "p", ())
            for choices in [(), UNLIKE[:1], UNLIKE]:
                rules = [(("q", ()), THREE_FREE, choices)]
                self.assert_refused(TooMuch, trees, singles(59), rules, 5, "q", ())
                self.assert_refused(TooMuch, trees, singles(59), rules * 300, 5, "q", ())
                self.assertEqual(trees(singles(59), rules, 5, "p", (7,)), ["n7"])

    def test_a_kid_that_leads_nowhere_may_have_very_many(self):
        # Of p there are far more trees than can be listed, but no instance of q and few of r build on them.
        shut = [(("q", ()), (("p", ()), ("none", ())), ()), (("q", ()), (("p", ()), ("one", ("X",))), (("<", "X", 0),))]
        some = (("r", ("X",)), (("one", ("X",)),), ())
        facts = [("a", "p", ()), ("b", "one", (1,))]
        with within(60):
            self.assertEqual(trees(facts, [CUBED, some] + shut, 5, "q", ()), [])
            self.assertEqual(trees(facts, [CUBED, some] + shut, 5, "r", (1,)), [(1, (1,), ("b",))])
            self.assertEqual(trees(facts + [("c", "q", ())], [CUBED] + shut, 5, "q", ()), ["c"])

    def test_sixty_rows_and_sixty_one(self):
        for rounds in range(6):
            self.assertEqual(trees(singles(60), [], rounds, "p", (3,)), ["n3"])
            self.assertEqual(trees(singles(60), [], rounds, "p", (60,)), [])
            for row in [(3,), (60,), (61,)]:
                self.assert_refused(TooMuch, trees, singles(61), [], rounds, "p", row)
        rule = (("q", ("X",)), (("p", ("X",)),), ())
        self.assertEqual(trees(singles(30), [rule], 5, "q", (3,)), [(0, (3,), ("n3",))])
        self.assertEqual(trees(singles(31), [rule], 0, "p", (3,)), ["n3"])
        self.assert_refused(TooMuch, trees, singles(31), [rule], 1, "q", (3,))
        self.assert_refused(TooMuch, trees, singles(31), [rule], 1, "none", ())
        burst = (("t", ("X", "Y", "Z")), THREE_FREE, ())
        with within(60):
            self.assert_refused(TooMuch, trees, singles(59), [burst] * 300, 5, "p", (3,))


class TreeForTest(GroveTestCase):
    def assert_tree_for(self, facts, rules, rounds, table, row, product):
        with self.subTest(facts=repr(facts)[:200], rules=repr(rules)[:200], rounds=rounds, pair=(table, row),
                          product=product):
            tree = tree_for(facts, rules, rounds, table, row, product)
            self.assertIsNotNone(tree)
            self.assertEqual(leaves(tree), product)
            self.assertEqual(leads_to(facts, rules, tree), (table, row))
            self.assertLessEqual(height(tree), rounds)

            def call(handed_facts, handed_rules):
                return tree_for(handed_facts, handed_rules, rounds, table, row, product)

            self.assert_own_answer(call, lambda: (list(facts), list(rules)), tree)

    def assert_none_for(self, facts, rules, rounds, table, row, product):
        with self.subTest(facts=repr(facts)[:200], rules=repr(rules)[:200], rounds=rounds, pair=(table, row),
                          product=product):
            self.assertIsNone(tree_for(facts, rules, rounds, table, row, product))

    def assert_all_products(self, facts, rules, rounds):
        many = 0
        for table, row, why in why_run(facts, rules, rounds)[-1]:
            for product, ways in why:
                self.assert_tree_for(facts, rules, rounds, table, row, product)
                many += 1
        return many

    def test_facts_alone(self):
        for rounds in range(6):
            for name, table, row in FACTS:
                self.assert_tree_for(FACTS, [STEP], rounds, table, row, (name,))
                self.assertEqual(tree_for(FACTS, [STEP], rounds, table, row, (name,)), name)
            self.assert_none_for(FACTS, [STEP], rounds, "edge", (1, 2), ("b",))
            self.assert_none_for(FACTS, [STEP], rounds, "edge", (1, 2), ("a", "d"))
            self.assert_none_for(FACTS, [STEP], rounds, "edge", (1, 2), ())

    def test_no_facts_and_no_rules(self):
        for rounds in range(6):
            for product in [(), ("a",), ("a", "a")]:
                self.assert_none_for([], [], rounds, "p", (1,), product)
                self.assert_none_for([], [STEP, LONGER], rounds, "way", (1, 2), product)

    def test_the_product_of_no_names(self):
        for rounds in range(1, 6):
            self.assert_tree_for([], [FREE], rounds, "p", (1,), ())
            self.assert_tree_for([("a", "p", (1,))], [FREE], rounds, "p", (1,), ())
            self.assert_none_for([("a", "p", (1,))], [LOOP], rounds, "p", (1,), ())
            self.assert_none_for([("a", "p", (1,))], [(FREE[0], (), (("=", 1, 2),))], rounds, "p", (1,), ())
        self.assert_none_for([], [FREE], 0, "p", (1,), ())
        self.assert_tree_for([], [FREE, TWICE], 2, "both", (1,), ())
        self.assert_none_for([], [FREE, TWICE], 1, "both", (1,), ())

    def test_a_product_that_the_why_has_not(self):
        facts = [("a", "edge", (1, 2)), ("b", "edge", (2, 3)), ("c", "edge", (1, 3))]
        rules = [STEP, LONGER]
        self.assert_tree_for(facts, rules, 2, "way", (1, 3), ("a", "b"))
        self.assert_tree_for(facts, rules, 2, "way", (1, 3), ("c",))
        for product in [(), ("a",), ("b",), ("a", "a"), ("a", "a", "b"), ("a", "b", "b"), ("a", "b", "c"), ("c", "c"),
                        ("a", "c")]:
            self.assert_none_for(facts, rules, 2, "way", (1, 3), product)
        self.assert_none_for(facts, rules, 1, "way", (1, 3), ("a", "b"))
        self.assert_tree_for(facts, rules, 1, "way", (1, 3), ("c",))
        self.assert_none_for(facts, rules, 2, "way", (1, 3), ("a",) * 300)

    def test_a_name_that_is_no_facts(self):
        for product in [("z",), ("a", "z"), ("aa",), ("edge",), ("if",), ("a", "b", "z")]:
            self.assert_none_for(FACTS, [STEP, LONGER], 3, "way", (1, 3), product)
            self.assert_none_for(FACTS, [STEP, LONGER], 3, "edge", (1, 2), product)

    def test_a_row_that_does_not_stand(self):
        for table, row in [("way", ()), ("edge", (2, 1)), ("none", ()), ("edge", (1,)), ("mark", (1,)),
                           ("way", (9, 9))]:
            for product in [(), ("a",), ("a", "b")]:
                self.assert_none_for(FACTS, [STEP, LONGER], 3, table, row, product)

    def test_rules_that_go_round(self):
        for rounds in range(6):
            self.assert_all_products(ROUND_TRIP, [STEP, LONGER], rounds)
        self.assert_tree_for(ROUND_TRIP, [STEP, LONGER], 5, "way", (1, 2), ("a", "a", "a", "b", "b"))
        self.assert_none_for(ROUND_TRIP, [STEP, LONGER], 4, "way", (1, 2), ("a", "a", "a", "b", "b"))
        # A leaf alone is enough, whatever else would have this product.
        self.assertEqual(leaves(tree_for([("a", "p", (1,))], [LOOP], 5, "p", (1,), ("a",))), ("a",))

    def test_parts_of_a_product_that_lead_nowhere(self):
        # The first kid could have a, b or both; the second one has just one of these.
        facts = [("a", "p", ()), ("b", "p", ()), ("c", "q", ()), ("b2", "q", ())]
        both = (("p", ()), (("p", ()), ("p", ())), ())
        joined = (("r", ()), (("p", ()), ("q", ()), ("p", ())), ())
        self.assertGreater(self.assert_all_products(facts, [both, joined], 2), 20)
        self.assert_tree_for(facts, [both, joined], 2, "r", (), ("a", "a", "b", "b", "c"))
        self.assert_none_for(facts, [both, joined], 2, "r", (), ("a", "a", "b", "b"))
        self.assert_none_for(facts, [both, joined], 2, "r", (), ("a", "b2", "c"))

    def test_two_rules_that_are_written_alike(self):
        self.assert_all_products(FACTS, [STEP, STEP, LONGER, LONGER], 3)
        self.assert_all_products([("a", "p", (1,)), ("b", "p", (1,))], [TWICE] * 3, 2)

    def test_rows_of_which_very_many_trees_tell(self):
        free = [(("p", (number,)), (), ()) for number in range(58)]
        facts = [("a", "p", (57,))]
        with within(60):
            for choices, most in [((), 3), (UNLIKE[:1], 2), (UNLIKE, 1)]:
                rules = free + [(("q", ()), THREE_FREE, choices)] * 100
                self.assertGreater(run(facts, rules, 5, Counts(), {"a": 1})[-1][-1][2], 10 ** 7)
                for names in range(most + 1):
                    found = tree_for(facts, rules, 5, "q", (), ("a",) * names)
                    self.assertEqual(leaves(found), ("a",) * names)
                    self.assertEqual(leads_to(facts, rules, found), ("q", ()))
                self.assertIsNone(tree_for(facts, rules, 5, "q", (), ("a",) * (most + 1)))
            # 3 ** 4 leaves, and numbers of trees of many figures.
            for names in (1, 3, 41, 79, 81):
                self.assert_tree_for([("a", "p", ())], [CUBED] * 9, 4, "p", (), ("a",) * names)
            for names in (2, 82, 243):
                self.assert_none_for([("a", "p", ())], [CUBED] * 9, 4, "p", (), ("a",) * names)

    def test_fifty_products_and_fifty_one(self):
        for rounds in range(6):
            self.assert_tree_for(alike(50), [], rounds, "p", (), ("n49",))
            self.assert_refused(TooMuch, tree_for, alike(51), [], rounds, "p", (), ("n49",))
            # Another row, one that doesn't stand, and a product that none has.
            for table, product in [("q", ("z",)), ("p", ("z",)), ("r", ()), ("q", ())]:
                facts = alike(51) + [("z", "q", ())]
                self.assert_refused(TooMuch, tree_for, facts, [], rounds, table, (), product)
        rule = (("q", ()), (("p", ("X",)),), ())
        self.assert_tree_for(singles(50), [rule], 1, "q", (), ("n7",))
        self.assert_tree_for(singles(51), [rule], 0, "p", (7,), ("n7",))
        self.assert_refused(TooMuch, tree_for, singles(51), [rule], 1, "p", (7,), ("n7",))
        # The 51st comes behind the last round.
        late = (("q", ()), (("r", ("X",)),), ())
        ahead = (("r", ("X",)), (("p", ("X",)),), ())
        facts = [("n" + str(n), "p", (n % 20,)) for n in range(51)]
        self.assert_tree_for(facts, [ahead, late], 1, "r", (7,), ("n7",))
        self.assert_refused(TooMuch, tree_for, facts, [ahead, late], 2, "r", (7,), ("n7",))
        self.assert_tree_for(facts[:50], [ahead, late], 2, "q", (), ("n7",))

    def test_sixty_rows_and_sixty_one(self):
        for rounds in range(6):
            self.assert_tree_for(singles(60), [], rounds, "p", (3,), ("n3",))
            self.assert_refused(TooMuch, tree_for, singles(61), [], rounds, "p", (3,), ("n3",))
            self.assert_refused(TooMuch, tree_for, singles(61), [], rounds, "none", (), ())

    def test_given_up_without_long_waiting(self):
        with within(60):
            self.assert_refused(TooMuch, tree_for, alike(300), [CUBED] * 300, 5, "p", (), ("n0",))
            rules = [(("q", ()), THREE_FREE, UNLIKE)] * 300
            self.assert_refused(TooMuch, tree_for, singles(59), rules, 5, "p", (3,), ("n3",))

    def test_vetted(self):
        self.assert_vetted(tree_for, "edge", (1, 2), ("a",))
        self.assert_in_order(tree_for, [("m" + str(n), "m", (n,)) for n in range(61)], "m", (3,), ("m3",))
        self.assert_in_order(tree_for, [("m" + str(n), "m", ()) for n in range(51)], "m", (), ("z",))


class ManyTest(GroveTestCase):
    def test_trees_of_all_sorts(self):
        told, refused = 0, 0
        for facts, rules, rounds, expected in some_runs(29, 500):
            counts = run(facts, rules, rounds, Counts(), {name: 1 for name, table, row in facts})
            if sum(worth for table, row, worth in counts[-1]) > 3000:
                continue
            grown = naive_trees(facts, rules, rounds)
            self.assertEqual({(table, row): worth for table, row, worth in counts[-1]},
                             {pair: len(found) for pair, found in grown.items()})
            for (table, row), found in grown.items():
                if len(found) > 100:
                    refused += 1
                    self.assert_refused(TooMuch, trees, facts, rules, rounds, table, row)
                else:
                    told += 1
                    listed = trees(facts, rules, rounds, table, row)
                    self.assertEqual((len(listed), set(listed)), (len(found), set(found)))
        self.assertGreater(told, 1000)
        self.assertGreater(refused, 20)

    def test_the_products_of_a_why_are_those_of_its_trees(self):
        many = 0
        for facts, rules, rounds, expected in some_runs(3, 300):
            if expected is None:
                continue
            for table, row, why in expected[-1]:
                if sum(ways for product, ways in why) <= 100:
                    found = trees(facts, rules, rounds, table, row)
                    self.assertEqual(gathered([(leaves(tree), 1) for tree in found]), why)
                    many += len(why) > 1
        self.assertGreater(many, 100)

    def test_a_tree_for_each_product(self):
        many = 0
        for facts, rules, rounds, expected in some_runs(30, 300):
            if expected is None:
                self.assert_refused(TooMuch, tree_for, facts, rules, rounds, "p", (1,), ("a",))
                continue
            for table, row, why in expected[-1]:
                products = [product for product, ways in why]
                for product in products:
                    tree = tree_for(facts, rules, rounds, table, row, product)
                    self.assertEqual(leaves(tree), product)
                    self.assertEqual(leads_to(facts, rules, tree), (table, row))
                    self.assertLessEqual(height(tree), rounds)
                    many += 1
                    for other in [product + ("z",), product[1:], tuple(sorted(product + ("a",)))]:
                        if other not in products:
                            self.assertIsNone(tree_for(facts, rules, rounds, table, row, other))
        self.assertGreater(many, 1000)


if __name__ == "__main__":
    unittest.main()
