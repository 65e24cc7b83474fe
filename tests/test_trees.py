import itertools
import random
import unittest

from helpers import SIXTY_FIGURES, HandedOver, within
from naive import naive_instances, naive_trees, some_rule
from whyrows.trees import height, leads_to, leaves
from whyrows.whys import is_why

MUCH = SIXTY_FIGURES
FACTS = [("a", "edge", (1, 2)), ("b", "edge", (2, 3)), ("c", "edge", (3, 4)), ("d", "edge", (1, 2)), ("e", "mark", ()),
         ("f", "way", (2, 3)), ("g", "edge", (2, 2)), ("h", "back", (2, 1))]
STEP = (("way", ("X", "Y")), (("edge", ("X", "Y")),), ())
LONGER = (("way", ("X", "Z")), (("edge", ("X", "Y")), ("way", ("Y", "Z"))), (("!=", "X", "Z"),))
FREE = (("p", (1, "x")), (), ())
SHUT = (("p", (2,)), (), (("<", 2, 1),))
THREE = (("tri", ("X", 7, "X")), (("edge", ("X", "Y")), ("mark", ()), ("edge", ("Y", "Z"))), (("<", "X", "Z"),))
LOOP = (("mark", ()), (("edge", ("X", "X")),), ())
RULES = [STEP, LONGER, FREE, SHUT, THREE, LOOP]


def tall(rounds):
    """A tree of this height, of one kid each."""
    tree = "a"
    for number in range(rounds):
        tree = (0, (1,), (tree,))
    return tree


class LeavesTest(unittest.TestCase, HandedOver):
    def assert_leaves(self, tree, expected):
        with self.subTest(tree=repr(tree)[:200]):
            self.assert_own_answer(leaves, lambda: (tree,), expected)
            self.assertIs(leaves(tree).__class__, tuple)
            self.assertTrue(is_why([(leaves(tree), 1)]))

    def test_a_name_alone(self):
        for name in ("a", "z9", "abcdefghijkl", "if"):
            self.assert_leaves(name, (name,))

    def test_a_tuple_without_kids(self):
        self.assert_leaves((0, (), ()), ())
        self.assert_leaves((7, (1, "b"), ()), ())
        self.assert_leaves((0, (), ((1, (), ()), (2, (), ()))), ())

    def test_in_order(self):
        self.assert_leaves((0, (1,), ("b", "a")), ("a", "b"))
        self.assert_leaves((0, (1,), ("c", (1, (2,), ("b", "d")), "a")), ("a", "b", "c", "d"))
        names = ["a", "a0", "a10", "a9", "aa", "b", "b1", "z"]
        for seed in range(20):
            mixed = list(names)
            random.Random(seed).shuffle(mixed)
            self.assert_leaves((0, (), tuple(mixed)), tuple(names))
            self.assert_leaves((0, (), (tuple([3, (), tuple(mixed[:4])]), mixed[4], (1, (), tuple(mixed[5:])))),
                               tuple(names))

    def test_a_name_that_stands_several_times(self):
        self.assert_leaves((0, (), ("a", "a")), ("a", "a"))
        self.assert_leaves((0, (), ("a", (0, (), ("b", "a")), "b")), ("a", "a", "b", "b"))
        kid = (1, (2,), ("b", "a"))
        self.assert_leaves((0, (), (kid, kid, kid)), ("a", "a", "a", "b", "b", "b"))

    def test_rows_and_numbers_are_no_leaves(self):
        self.assert_leaves((5, ("x", 3, "y"), ("a", (6, ("z",), ()))), ("a",))

    def test_up_to_a_height_of_ten(self):
        for rounds in range(11):
            self.assert_leaves(tall(rounds), ("a",))
        tree = "b"
        for number in range(10):
            tree = (0, (number,), ("a", tree, "c"))
        self.assert_leaves(tree, ("a",) * 10 + ("b",) + ("c",) * 10)
        with within(60):
            wide = "a"
            for number in range(10):
                wide = (0, (), (wide, wide, wide))
            self.assertEqual(leaves(wide), ("a",) * 3 ** 10)


class HeightTest(unittest.TestCase, HandedOver):
    def assert_height(self, tree, expected):
        with self.subTest(tree=repr(tree)[:200]):
            self.assert_own_answer(height, lambda: (tree,), expected)
            self.assertIs(height(tree).__class__, int)

    def test_a_name_alone(self):
        for name in ("a", "z9", "abcdefghijkl"):
            self.assert_height(name, 0)

    def test_a_tuple_without_kids(self):
        self.assert_height((0, (), ()), 1)
        self.assert_height((7, (1, 2, 3, 4), ()), 1)

    def test_one_more_than_the_greatest_of_the_kids(self):
        self.assert_height((0, (), ("a",)), 1)
        self.assert_height((0, (), ("a", "b", "c")), 1)
        self.assert_height((0, (), ((0, (), ()),)), 2)
        self.assert_height((0, (), ("a", (0, (), ()), "b")), 2)
        for kids in itertools.permutations([tall(1), tall(4), tall(2)]):
            self.assert_height((0, (), kids), 5)

    def test_up_to_a_height_of_ten(self):
        for rounds in range(11):
            self.assert_height(tall(rounds), rounds)
        with within(60):
            wide = "a"
            for number in range(10):
                wide = (0, (), (wide, "b", wide))
            self.assertEqual(height(wide), 10)


class LeadsToTest(unittest.TestCase, HandedOver):
    def assert_leads(self, tree, expected, facts=FACTS, rules=RULES):
        with self.subTest(tree=repr(tree)[:200], facts=repr(facts)[:200], rules=repr(rules)[:200]):
            self.assert_own_answer(leads_to, lambda: (list(facts), list(rules), tree), expected)
            self.assertIs(leads_to(facts, rules, tree).__class__, expected.__class__)

    def test_a_name(self):
        for name, table, row in FACTS:
            self.assert_leads(name, (table, row))
        for name in ("z", "aa", "edge", "mark"):
            self.assert_leads(name, None)
        self.assert_leads("a", None, facts=[])
        self.assert_leads("a", ("edge", (1, 2)), rules=[])
        self.assert_leads("d", ("edge", (1, 2)), rules=[])

    def test_one_rule(self):
        self.assert_leads((0, (1, 2), ("a",)), ("way", (1, 2)))
        self.assert_leads((0, (1, 2), ("d",)), ("way", (1, 2)))
        self.assert_leads((0, (3, 4), ("c",)), ("way", (3, 4)))
        self.assert_leads((5, (), ("g",)), ("mark", ()))
        self.assert_leads((4, (1, 7, 1), ("a", "e", "b")), ("tri", (1, 7, 1)))

    def test_rules_on_rules(self):
        self.assert_leads((1, (1, 3), ("a", "f")), ("way", (1, 3)))
        self.assert_leads((1, (1, 3), ("a", (0, (2, 3), ("b",)))), ("way", (1, 3)))
        self.assert_leads((1, (1, 4), ("d", (1, (2, 4), ("b", (0, (3, 4), ("c",)))))), ("way", (1, 4)))
        self.assert_leads((4, (1, 7, 1), ("a", (5, (), ("g",)), "b")), ("tri", (1, 7, 1)))

    def test_a_number_that_is_no_rules(self):
        for number in (-MUCH, -len(RULES) - 1, -len(RULES), -2, -1, len(RULES), len(RULES) + 1, MUCH):
            self.assert_leads((number, (1, 2), ("a",)), None)
            self.assert_leads((number, (), ("g",)), None)
            self.assert_leads((number, (1, "x"), ()), None)
            self.assert_leads((0, (1, 2), ((number, (1, 2), ("a",)),)), None)
        for number in (-1, 0, 1):
            self.assert_leads((number, (1, 2), ("a",)), None, rules=[])
        self.assert_leads((-1, (1, 2), ("a",)), None, rules=[STEP])
        self.assert_leads((1, (1, 2), ("a",)), None, rules=[STEP])
        self.assert_leads((1, (1, 2), ("a",)), ("way", (1, 2)), rules=[FREE, STEP])

    def test_too_few_kids_or_too_many(self):
        self.assert_leads((0, (1, 2), ()), None)
        self.assert_leads((0, (1, 2), ("a", "a")), None)
        self.assert_leads((0, (1, 2), ("a", "z")), None)
        self.assert_leads((1, (1, 3), ("a",)), None)
        self.assert_leads((1, (1, 3), ("a", "f", "f")), None)
        self.assert_leads((2, (1, "x"), ("a",)), None)
        self.assert_leads((4, (1, 7, 1), ("a", "e")), None)
        self.assert_leads((4, (1, 7, 1), ("a", "e", "b", "b")), None)

    def test_a_kid_that_leads_nowhere(self):
        self.assert_leads((0, (1, 2), ("z",)), None)
        self.assert_leads((1, (1, 3), ("a", "z")), None)
        self.assert_leads((1, (1, 3), ("z", "f")), None)
        self.assert_leads((1, (1, 3), ("a", (0, (2, 3), ("z",)))), None)
        self.assert_leads((1, (1, 3), ("a", (0, (2, 3), ("a",)))), None)
        self.assert_leads((4, (1, 7, 1), ("a", (5, (), ("a",)), "b")), None)
        self.assert_leads((0, (1, 2), ((3, (2,), ()),)), None)

    def test_a_kid_that_leads_to_another_table(self):
        self.assert_leads((0, (2, 3), ("f",)), None)
        self.assert_leads((0, (2, 1), ("h",)), None)
        self.assert_leads((1, (1, 3), ("a", "b")), None)
        self.assert_leads((1, (1, 3), ("f", "a")), None)
        self.assert_leads((4, (1, 7, 1), ("a", "g", "b")), None)
        # Where tables differ, a kid of the right row is of no help.
        rule = (("q", ("X",)), (("p", ("X",)), ("r", ("X",))), ())
        facts = [("a", "p", (1,)), ("b", "r", (1,))]
        self.assert_leads((0, (1,), ("a", "b")), ("q", (1,)), facts, [rule])
        for kids in [("b", "a"), ("a", "a"), ("b", "b")]:
            self.assert_leads((0, (1,), kids), None, facts, [rule])

    def test_a_row_that_is_not_the_heads_put_in(self):
        for row in [(), (1,), (2, 1), (1, 3), (1, 2, 3), ("a", 2), (1, "b"), ("x", "y")]:
            self.assert_leads((0, row, ("a",)), None)
        for row in [(), (1,), (2,), (1, 2), (2, 3), (3, 1), (1, 3, 1)]:
            self.assert_leads((1, row, ("a", "f")), None)
        for row in [(1, 7), (1, 7, 2), (1, 8, 1), (7, 7, 7), (1, "x", 1)]:
            self.assert_leads((4, row, ("a", "e", "b")), None)
        for row in [(), (1,), ("x", 1), (1, "y"), (2, "x"), (1, "x", 1)]:
            self.assert_leads((2, row, ()), None)

    def test_a_choice_that_does_not_hold(self):
        # From 2 to 2, where the two are to be unlike.
        facts = [("a", "edge", (2, 3)), ("b", "way", (3, 2)), ("c", "way", (3, 1))]
        self.assert_leads((1, (2, 2), ("a", "b")), None, facts)
        self.assert_leads((1, (2, 1), ("a", "c")), ("way", (2, 1)), facts)
        rules = [(("p", ("X",)), (("q", ("X",)),), (("!=", "X", 1), (sign, "X", 5))) for sign in ("=", "!=", "<")]
        facts = [("n" + str(number), "q", (number,)) for number in (1, 4, 5, 6)] + [("w", "q", ("a",))]
        for number, allowed in enumerate([("n5",), ("n4", "n6", "w"), ("n4",)]):
            for name, table, row in facts:
                expected = ("p", row) if name in allowed else None
                self.assert_leads((number, row, (name,)), expected, facts, rules)

    def test_a_variable_that_would_have_two_values(self):
        self.assert_leads((1, (1, 3), ("c", "f")), None)
        self.assert_leads((1, (3, 3), ("c", "f")), None)
        self.assert_leads((5, (), ("a",)), None)
        self.assert_leads((4, (1, 7, 1), ("a", "e", "c")), None)
        self.assert_leads((4, (1, 7, 1), ("a", "e", "a")), None)
        rule = (("q", ()), (("edge", ("X", "Y")), ("edge", ("Y", "X"))), ())
        self.assert_leads((0, (), ("a", "a")), None, rules=[rule])
        self.assert_leads((0, (), ("g", "g")), ("q", ()), rules=[rule])

    def test_values_and_lengths_of_atoms(self):
        rules = [(("q", ("X",)), (("edge", (1, "X")),), ()), (("q", ("X",)), (("edge", ("X",)),), ()),
                 (("q", ()), (("edge", (1, 2)),), ())]
        self.assert_leads((0, (2,), ("a",)), ("q", (2,)), rules=rules)
        self.assert_leads((0, (3,), ("b",)), None, rules=rules)
        self.assert_leads((1, (1,), ("a",)), None, rules=rules)
        self.assert_leads((2, (), ("d",)), ("q", ()), rules=rules)
        self.assert_leads((2, (), ("b",)), None, rules=rules)

    def test_a_rule_with_an_empty_body(self):
        self.assert_leads((2, (1, "x"), ()), ("p", (1, "x")))
        self.assert_leads((2, (1, "x"), ()), ("p", (1, "x")), facts=[])
        self.assert_leads((3, (2,), ()), None)
        rules = [FREE, (("q", ("X",)), (("p", (1, "X")), ("p", ("Y", "X"))), (("=", "Y", 1),))]
        self.assert_leads((1, ("x",), ((0, (1, "x"), ()), (0, (1, "x"), ()))), ("q", ("x",)), [], rules)

    def test_a_fact_that_is_used_twice(self):
        rule = (("q", ("X", "Z")), (("edge", ("X", "Y")), ("edge", ("Z", "Y"))), ())
        self.assert_leads((0, (1, 1), ("a", "a")), ("q", (1, 1)), rules=[rule])
        self.assert_leads((0, (1, 1), ("a", "d")), ("q", (1, 1)), rules=[rule])
        self.assert_leads((0, (1, 2), ("a", "g")), ("q", (1, 2)), rules=[rule])

    def test_numbers_of_sixty_figures(self):
        facts = [("a", "p", (MUCH, -MUCH)), ("b", "p", (-MUCH, MUCH))]
        rule = (("q", ("Y", "X", MUCH)), (("p", ("X", "Y")), ("p", ("Y", "X"))), (("<", "X", "Y"),))
        self.assert_leads((0, (MUCH, -MUCH, MUCH), ("b", "a")), ("q", (MUCH, -MUCH, MUCH)), facts, [rule])
        self.assert_leads((0, (-MUCH, MUCH, MUCH), ("a", "b")), None, facts, [rule])
        self.assert_leads((0, (MUCH, -MUCH, MUCH - 1), ("b", "a")), None, facts, [rule])

    def test_up_to_a_height_of_ten(self):
        facts = [("e" + str(number), "edge", (number, number + 1)) for number in range(11)]
        tree = (0, (9, 10), ("e9",))
        for number in range(8, -1, -1):
            tree = (1, (number, 10), ("e" + str(number), tree))
        self.assertEqual(height(tree), 10)
        self.assert_leads(tree, ("way", (0, 10)), facts)
        self.assert_leads(tree, None, facts[:9] + facts[10:])
        with within(60):
            wide = "a"
            for number in range(10):
                wide = (0, (), (wide, wide, wide))
            rule = (("p", ()), (("p", ()),) * 3, ())
            self.assertEqual(leads_to([("a", "p", ())], [rule], wide), ("p", ()))
            self.assertIsNone(leads_to([("b", "p", ())], [rule], wide))


def spoilt_trees(tree, chance, names, rows):
    """Trees that differ from this one at one place."""
    if isinstance(tree, str):
        yield chance.choice(names)
        yield (0, chance.choice(rows), (tree,))
        return
    number, row, kids = tree
    yield (number + chance.choice([-1, 1]), row, kids)
    yield (number, chance.choice(rows), kids)
    yield (number, row, kids + (chance.choice(names),))
    yield (number, row, kids[1:])
    yield (number, row, kids[::-1])
    yield chance.choice(names)
    for place, kid in enumerate(kids):
        for other in spoilt_trees(kid, chance, names, rows):
            yield (number, row, kids[:place] + (other,) + kids[place + 1:])


def naive_lead(facts, rules, tree):
    """Point 28 in its own words: by the instances of the rule in the very rows that are used."""
    if isinstance(tree, str):
        return ([(table, row) for name, table, row in facts if name == tree] + [None])[0]
    number, row, kids = tree
    if number not in range(len(rules)) or len(rules[number][1]) != len(kids):
        return None
    leads = [naive_lead(facts, rules, kid) for kid in kids]
    if None in leads or [table for table, used in leads] != [table for table, terms in rules[number][1]]:
        return None
    tables = {}
    for table, used in leads:
        tables.setdefault(table, set()).add(used)
    if (row, tuple(used for table, used in leads)) not in naive_instances(rules[number], tables):
        return None
    return (rules[number][0][0], row)


class ManyTest(unittest.TestCase):
    def test_trees_of_all_sorts(self):
        chance = random.Random(28)
        values = [1, 2, "a"]
        rows = [(), (1,), (2,), ("a",), (1, 2), (2, 1), (1, 1), ("a", 1)]
        right, wrong = 0, 0
        for step in range(300):
            facts = [(name, chance.choice("pqr"), tuple(chance.choices(values, k=chance.randrange(3))))
                     for name in "abcdef"]
            rules = [some_rule(chance, ["p", "q", "r"], values, 2) for number in range(4)]
            for pair, found in naive_trees(facts, rules, 2).items():
                for tree in chance.sample(found, min(len(found), 5)):
                    self.assertEqual(leads_to(facts, rules, tree), pair)
                    self.assertLessEqual(height(tree), 2)
                    for other in spoilt_trees(tree, chance, "abcdefz", rows):
                        expected = naive_lead(facts, rules, other)
                        self.assertEqual(leads_to(facts, rules, other), expected)
                        right += expected is not None
                        wrong += expected is None
        self.assertGreater(right, 1000)
        self.assertGreater(wrong, 1000)


if __name__ == "__main__":
    unittest.main()
