import copy
import itertools
import random
import unittest

from helpers import FOUR_HUNDRED_FIGURES, ODD_THINGS, SIXTY_FIGURES, HandedOver, within
from naive import AsWhys, key_of_row, naive_run, some_rule
from whyrows.errors import NoFact, NoName, NoRounds, NoRule, NoWorth, TooMuch
from whyrows.reckonings import Bests, Costs, Counts, Hands, Trusts, Truths
from whyrows.runs import run
from whyrows.whys import of_fact
from whyrows.worths import reckoned

MUCH = SIXTY_FIGURES
FACTS = [("a", "edge", (1, 2)), ("b", "edge", (2, 3)), ("c", "edge", (3, 1)), ("d", "edge", (1, 2)), ("e", "mark", ())]
STEP = (("way", ("X", "Y")), (("edge", ("X", "Y")),), ())
LONGER = (("way", ("X", "Z")), (("edge", ("X", "Y")), ("way", ("Y", "Z"))), ())
TWICE = (("both", ("X",)), (("p", ("X",)), ("p", ("X",))), ())
FREE = (("p", (1,)), (), ())
# Each reckoning with worths for the names a to f.
RECKONINGS = [
    (Counts(), dict.fromkeys("abcdef", 1)), (Counts(), {"a": 2, "b": 3, "c": 5, "d": 0, "e": 7, "f": MUCH}),
    (Costs(), {"a": 1, "b": 10, "c": 100, "d": -5, "e": None, "f": 0}), (Costs(), dict.fromkeys("abcdef")),
    (Bests(1), {"a": [4], "b": [2], "c": [], "d": [-1], "e": [0], "f": [7]}),
    (Bests(), {"a": [1, 4], "b": [2], "c": [3, 3, 3], "d": [], "e": [-1, 0], "f": [0]}),
    (Bests(9), {"a": [1, 2, 2], "b": [0], "c": [-3, -3], "d": list(range(9)), "e": [MUCH], "f": [-MUCH]}),
    (Trusts(), {"a": 90, "b": 50, "c": 70, "d": 95, "e": 100, "f": 0}), (Trusts(0), dict.fromkeys("abcdef", 0)),
    (Trusts(MUCH), {"a": MUCH, "b": MUCH - 1, "c": 3, "d": 0, "e": 1, "f": MUCH}),
    (Truths(), {"a": True, "b": False, "c": True, "d": False, "e": True, "f": False}),
    (Hands(), {"a": [("x",)], "b": [("y",)], "c": [("z",)], "d": [("u", "v")], "e": [()], "f": []}),
    (Hands(), {"a": [("x", "y"), ("z",)], "b": [("x",), ("y",)], "c": [("u", "x"), ("v",)], "d": [], "e": [("w",)],
               "f": [()]}),
]


class RunTestCase(unittest.TestCase, HandedOver):
    def assert_run(self, facts, rules, rounds, by, worths, expected):
        with self.subTest(by=by.__class__.__name__, facts=repr(facts)[:200], rules=repr(rules)[:200], rounds=rounds):
            def call(handed_facts, handed_rules, handed_worths):
                return run(handed_facts, handed_rules, rounds, by, handed_worths)

            self.assert_own_answer(call, lambda: (list(facts), list(rules), copy.deepcopy(worths)), expected)
            told = run(facts, rules, rounds, by, worths)
            self.assertEqual(len(told), rounds + 1)
            for behind in told:
                self.assertIs(behind.__class__, list)
                for (table, row, worth) in behind:
                    self.assertIs(by.fits(worth), True)

    def assert_as_naive(self, facts, rules, rounds, by, worths):
        self.assert_run(facts, rules, rounds, by, worths, naive_run(facts, rules, rounds, by, worths))

    def assert_refused(self, error, facts, rules, rounds, by, worths):
        with self.subTest(error=error.__name__, facts=repr(facts)[:200], rules=repr(rules)[:200], rounds=rounds):
            before = copy.deepcopy((facts, rules, worths))
            with self.assertRaises(error) as caught:
                run(facts, rules, rounds, by, worths)
            self.assertIs(caught.exception.__class__, error)
            self.assertEqual((facts, rules, worths), before)


class RowsTest(RunTestCase):
    def test_no_facts_and_no_rules(self):
        for by, worths in RECKONINGS:
            for rounds in range(6):
                self.assert_run([], [], rounds, by, {}, [[]] * (rounds + 1))
                self.assert_run([], [], rounds, by, worths, [[]] * (rounds + 1))
                self.assert_run([], [STEP, LONGER], rounds, by, worths, [[]] * (rounds + 1))

    def test_facts_alone(self):
        behind = [("edge", (1, 2), 1), ("edge", (2, 3), 10), ("edge", (3, 1), 100), ("mark", (), 5)]
        worths = {"a": 1, "b": 10, "c": 100, "d": 1000, "e": 5}
        for rounds in range(6):
            self.assert_run(FACTS, [], rounds, Costs(), worths, [behind] * (rounds + 1))

    def test_no_rounds(self):
        for by, worths in RECKONINGS:
            told = run(FACTS, [STEP, LONGER, FREE], 0, by, worths)
            self.assertEqual([(table, row) for table, row, worth in told[0]],
                             [("edge", (1, 2)), ("edge", (2, 3)), ("edge", (3, 1)), ("mark", ())])
            self.assert_as_naive(FACTS, [STEP, LONGER, FREE], 0, by, worths)

    def test_a_round_builds_on_the_round_ahead(self):
        facts = [("a", "p0", (1,))]
        rules = [(("p" + str(number + 1), ("X",)), (("p" + str(number), ("X",)),), ()) for number in range(6)]
        for some in (rules, rules[::-1]):
            expected = [[("p" + str(number), (1,), 7) for number in range(rounds + 1)] for rounds in range(6)]
            self.assert_run(facts, some, 5, Counts(), {"a": 7}, expected)

    def test_rules_that_go_round(self):
        facts = [("a", "edge", (1, 2)), ("b", "edge", (2, 3)), ("c", "edge", (3, 4))]
        edges = [("edge", (1, 2), 1), ("edge", (2, 3), 2), ("edge", (3, 4), 4)]
        ways = [[], [("way", (1, 2), 1), ("way", (2, 3), 2), ("way", (3, 4), 4)],
                [("way", (1, 2), 1), ("way", (1, 3), 3), ("way", (2, 3), 2), ("way", (2, 4), 6), ("way", (3, 4), 4)],
                [("way", (1, 2), 1), ("way", (1, 3), 3), ("way", (1, 4), 7), ("way", (2, 3), 2), ("way", (2, 4), 6),
                 ("way", (3, 4), 4)]]
        expected = [edges + some for some in ways]
        worths = {"a": 1, "b": 2, "c": 4}
        self.assert_run(facts, [STEP, LONGER], 3, Costs(), worths, expected)
        self.assert_run(facts, [LONGER, STEP], 5, Costs(), worths, expected + expected[3:] * 2)

    def test_what_a_rule_gives_changes_behind_a_later_round(self):
        # With a loop the counts grow on where the rows stay.
        loop = (("p", ("X",)), (("p", ("X",)), ("e", ("X",))), ())
        expected = [[("e", (1,), 2), ("p", (1,), count)] for count in (3, 9, 21, 45, 93, 189)]
        self.assert_run([("a", "e", (1,)), ("b", "p", (1,))], [loop], 5, Counts(), {"a": 2, "b": 3}, expected)

    def test_tables_with_rows_of_several_lengths(self):
        facts = [("a", "t", ()), ("b", "t", (1,)), ("c", "t", (1, 2)), ("d", "t", ("a", 2, 3, 4))]
        rules = [(("t", ("X", "Y", "X")), (("t", ("X", "Y")),), ()),
                 (("t", ("X",)), (("t", ()), ("t", ("X", "Y", "Z", "W"))), ())]
        first = [("t", (), 2), ("t", (1,), 3), ("t", (1, 2), 5), ("t", ("a", 2, 3, 4), 7)]
        later = first[:3] + [("t", (1, 2, 1), 5), ("t", ("a",), 14)] + first[3:]
        self.assert_run(facts, rules, 2, Counts(), {"a": 2, "b": 3, "c": 5, "d": 7}, [first, later, later])

    def test_in_order_by_table_then_by_row(self):
        rows = [(), (-MUCH,), (-1,), (9,), (9, 0), (9, "a"), (10,), (MUCH,), ("a",), ("a", 1), ("a10",), ("a9",),
                ("b",)]
        tables = ["a", "a0", "a00", "a1", "aa", "b10", "b9", "z"]
        pairs = list(itertools.product(tables, rows))[::2]
        facts = [("n" + str(number), table, row) for number, (table, row) in enumerate(pairs)]
        chance = random.Random(5)
        chance.shuffle(facts)
        worths = {name: name == "n0" for name, table, row in facts}
        expected = [(table, row, place == 0) for place, (table, row) in enumerate(pairs)]
        self.assert_run(facts, [], 1, Truths(), worths, [expected] * 2)
        # Rows of rules stand in order, too, whichever comes first.
        rules = [((table, row), (), ()) for table, row in pairs]
        chance.shuffle(rules)
        expected = [(table, row, 1) for table, row in pairs]
        self.assert_run([], rules, 1, Counts(), {}, [[], expected])
        given = [("n" + str(number), table, row) for number, (table, row) in enumerate(pairs) if number % 3]
        behind = [(table, row, 2 if number % 3 else 1) for number, (table, row) in enumerate(pairs)]
        told = run(given, rules, 1, Counts(), dict.fromkeys([name for name, table, row in given], 1))
        self.assertEqual(told[1], behind)


class WorthsTest(RunTestCase):
    def test_several_facts_of_one_row(self):
        facts = [("a", "p", (1,)), ("b", "p", (1,)), ("c", "p", (1,)), ("d", "q", (1,))]
        for by, worths, expected in [
            (Counts(), {"a": 2, "b": 3, "c": 5, "d": 7}, 10), (Costs(), {"a": 2, "b": None, "c": -5, "d": -9}, -5),
            (Bests(), {"a": [2, 9], "b": [3], "c": [2], "d": [0]}, [2, 2, 3]),
            (Trusts(), {"a": 2, "b": 9, "c": 3, "d": 50}, 9),
            (Truths(), {"a": False, "b": True, "c": False, "d": False}, True),
            (Hands(), {"a": [("x", "y")], "b": [("x",)], "c": [("z",)], "d": [()]}, [("x",), ("z",)]),
        ]:
            behind = [("p", (1,), expected), ("q", (1,), worths["d"])]
            self.assert_run(facts, [], 2, by, worths, [behind] * 3)
            # The same row in another table is another pair.
            rule = (("r", ("X",)), (("p", ("X",)),), ())
            self.assert_run(facts, [rule], 1, by, worths, [behind, behind + [("r", (1,), expected)]])

    def test_two_rules_that_are_written_alike(self):
        facts = [("a", "edge", (1, 2)), ("b", "edge", (2, 3))]
        for many in range(1, 5):
            told = run(facts, [STEP] * many, 1, Counts(), {"a": 5, "b": 7})
            self.assertEqual(told[1][2:], [("way", (1, 2), 5 * many), ("way", (2, 3), 7 * many)])
        self.assert_run(facts, [STEP, STEP], 1, Bests(), {"a": [1, 5], "b": [2]}, [
            [("edge", (1, 2), [1, 5]), ("edge", (2, 3), [2])],
            [("edge", (1, 2), [1, 5]), ("edge", (2, 3), [2]), ("way", (1, 2), [1, 1, 5]), ("way", (2, 3), [2, 2])]])

    def test_a_row_that_is_used_twice_is_a_factor_twice(self):
        for by, worth, twice in [
            (Counts(), 7, 49), (Costs(), 7, 14), (Costs(), None, None), (Bests(), [1, 4], [2, 5, 5]), (Trusts(), 7, 7),
            (Truths(), True, True), (Hands(), [("x",), ("y", "z")], [("x",), ("y", "z")]),
        ]:
            self.assert_run([("a", "p", (1,))], [TWICE], 1, by, {"a": worth},
                            [[("p", (1,), worth)], [("both", (1,), twice), ("p", (1,), worth)]])
        thrice = (("q", ()), (("p", ("X",)),) * 3, ())
        self.assert_run([("a", "p", (1,))], [thrice], 1, Costs(), {"a": -MUCH},
                        [[("p", (1,), -MUCH)], [("p", (1,), -MUCH), ("q", (), -3 * MUCH)]])

    def test_one_row_in_two_tables_is_two_factors(self):
        rule = (("r", ("X",)), (("p", ("X",)), ("q", ("X",)), ("p", ("X",))), ())
        self.assert_run([("a", "p", (1,)), ("b", "q", (1,))], [rule], 1, Counts(), {"a": 5, "b": 7}, [
            [("p", (1,), 5), ("q", (1,), 7)], [("p", (1,), 5), ("q", (1,), 7), ("r", (1,), 175)]])

    def test_several_instances_of_one_row(self):
        rule = (("p", ()), (("edge", ("X", "Y")),), ())
        self.assert_run(FACTS[:4], [rule, STEP], 1, Counts(), {"a": 1, "b": 10, "c": 100, "d": 1000}, [
            [("edge", (1, 2), 1001), ("edge", (2, 3), 10), ("edge", (3, 1), 100)],
            [("edge", (1, 2), 1001), ("edge", (2, 3), 10), ("edge", (3, 1), 100), ("p", (), 1111),
             ("way", (1, 2), 1001), ("way", (2, 3), 10), ("way", (3, 1), 100)]])

    def test_a_rule_with_an_empty_body(self):
        for by, worths in RECKONINGS:
            self.assert_run([], [FREE], 3, by, {}, [[]] + [[("p", (1,), by.unit())]] * 3)
            self.assert_run([], [FREE, FREE], 1, by, {}, [[], [("p", (1,), by.either(by.unit(), by.unit()))]])
            self.assert_run([], [(FREE[0], (), (("<", 1, 2),))], 1, by, {}, [[], [("p", (1,), by.unit())]])
            self.assert_run([], [(FREE[0], (), (("<", 2, 1),))], 2, by, {}, [[]] * 3)
        self.assert_run([("a", "p", (1,))], [FREE, TWICE], 2, Counts(), {"a": 5}, [
            [("p", (1,), 5)], [("both", (1,), 25), ("p", (1,), 6)], [("both", (1,), 36), ("p", (1,), 6)]])

    def test_a_row_that_is_a_facts_and_comes_of_a_rule(self):
        facts = [("a", "edge", (1, 2)), ("b", "way", (1, 2)), ("c", "way", (2, 1))]
        self.assert_run(facts, [STEP], 2, Counts(), {"a": 5, "b": 7, "c": 9}, [
            [("edge", (1, 2), 5), ("way", (1, 2), 7), ("way", (2, 1), 9)],
            [("edge", (1, 2), 5), ("way", (1, 2), 12), ("way", (2, 1), 9)],
            [("edge", (1, 2), 5), ("way", (1, 2), 12), ("way", (2, 1), 9)]])

    def test_a_worth_that_is_the_nought(self):
        for by, worths in RECKONINGS:
            twice = (("p", ()), (("way", ("X", "Y")), ("way", ("X", "Y"))), ())
            nought = by.nought()
            edge, way, mark = ("edge", (1, 2), nought), ("way", (1, 2), nought), ("p", (), nought)
            self.assert_run([("a", "edge", (1, 2))], [STEP, twice], 3, by, {"a": by.nought()},
                            [[edge], [edge, way], [edge, mark, way], [edge, mark, way]])

    def test_numbers_of_sixty_figures_either_way(self):
        facts = [("a", "p", (MUCH, -MUCH)), ("b", "p", (-MUCH, MUCH)), ("c", "p", (MUCH - 1, 0))]
        rules = [(("q", ("X",)), (("p", ("X", "Y")), ("p", ("Y", "X"))), (("<", "X", "Y"),)),
                 (("q", (MUCH,)), (("p", ("X", 0)), ("p", (MUCH, "Y"))), (("<", "X", MUCH), ("!=", "Y", MUCH)))]
        self.assert_run(facts, rules, 1, Counts(), {"a": MUCH, "b": 2, "c": MUCH}, [
            [("p", (-MUCH, MUCH), 2), ("p", (MUCH - 1, 0), MUCH), ("p", (MUCH, -MUCH), MUCH)],
            [("p", (-MUCH, MUCH), 2), ("p", (MUCH - 1, 0), MUCH), ("p", (MUCH, -MUCH), MUCH),
             ("q", (-MUCH,), 2 * MUCH), ("q", (MUCH,), MUCH * MUCH)]])
        self.assert_run(facts, rules, 1, Costs(), {"a": -MUCH, "b": -MUCH, "c": MUCH}, [
            [("p", (-MUCH, MUCH), -MUCH), ("p", (MUCH - 1, 0), MUCH), ("p", (MUCH, -MUCH), -MUCH)],
            [("p", (-MUCH, MUCH), -MUCH), ("p", (MUCH - 1, 0), MUCH), ("p", (MUCH, -MUCH), -MUCH),
             ("q", (-MUCH,), -2 * MUCH), ("q", (MUCH,), 0)]])
        squared = (("p", ("X",)), (("p", ("X",)), ("p", ("X",))), ())
        told = run([("a", "p", (1,))], [squared], 5, Counts(), {"a": MUCH})
        expected = MUCH
        for behind in told:
            self.assertEqual(behind, [("p", (1,), expected)])
            expected = MUCH + expected * expected

    def test_ways_through_a_net_by_each_reckoning(self):
        facts = [("a", "edge", (1, 2)), ("b", "edge", (2, 3)), ("c", "edge", (1, 3)), ("d", "edge", (3, 1))]
        for by, worths, expected in [
            (Counts(), {"a": 1, "b": 1, "c": 1, "d": 1}, [1, 2, 3]),
            (Costs(), {"a": 1, "b": 1, "c": 5, "d": 1}, [5, 2, 2]),
            (Costs(), {"a": 1, "b": None, "c": 5, "d": -9}, [5, 5, 1]),
            (Bests(), {"a": [1], "b": [1], "c": [5], "d": [1]}, [[5], [2, 5], [2, 5, 11]]),
            (Trusts(), {"a": 80, "b": 70, "c": 20, "d": 90}, [20, 70, 70]),
            (Truths(), {"a": True, "b": True, "c": False, "d": False}, [False, True, True]),
            (Hands(), {"a": [("x",)], "b": [("y",)], "c": [("x", "z")], "d": [()]},
             [[("x", "z")], [("x", "y"), ("x", "z")], [("x", "y"), ("x", "z")]]),
        ]:
            # From 1 to 3 by c, by a and b, by c, d and c.
            told = run(facts, [STEP, LONGER], 3, by, worths)
            found = [worth for behind in told for table, row, worth in behind if (table, row) == ("way", (1, 3))]
            self.assertEqual(found, expected)
            self.assert_as_naive(facts, [STEP, LONGER], 3, by, worths)

    def test_choices_and_three_atoms(self):
        rule = (("tri", ("X",)), (("edge", ("X", "Y")), ("edge", ("Y", "Z")), ("edge", ("Z", "X"))),
                (("<", "X", "Y"), ("<", "X", "Z")))
        for by, worths in RECKONINGS:
            self.assert_as_naive(FACTS, [rule, STEP, FREE], 2, by, worths)


class OwnAnswersTest(RunTestCase):
    def test_no_list_at_two_places(self):
        # The worths stay the same from round to round, and one list is the worth of several facts.
        same_numbers, same_sets = [1, 2], [("x",), ("y",)]
        facts = [("a", "edge", (1, 2)), ("b", "edge", (2, 3)), ("c", "node", (1,))]
        for by, same in [(Bests(), same_numbers), (Hands(), same_sets)]:
            worths = dict.fromkeys("abc", same)
            before = copy.deepcopy(same)
            told = run(facts, [STEP], 5, by, worths)
            lists = [behind for behind in told] + [worth for behind in told for table, row, worth in behind]
            self.assertEqual(len({id(one) for one in lists}), len(lists))
            self.assertNotIn(id(same), {id(one) for one in lists})
            self.assertEqual({repr(worth) for worth in lists[6:]}, {repr(before)})
            for one in lists:
                one.clear()
            self.assertEqual(same, before)
            self.assertEqual(run(facts, [STEP], 5, by, worths)[5][0], ("edge", (1, 2), before))
            self.assert_as_naive(facts, [STEP], 5, by, worths)

    def test_a_change_of_what_was_handed_in(self):
        facts, rules, worths = list(FACTS), [STEP], {name: [1] for name in "abcde"}
        told = run(facts, rules, 1, Bests(), worths)
        before = copy.deepcopy(told)
        facts.clear()
        rules.append(FREE)
        worths["a"].append(2)
        worths.clear()
        self.assertEqual(told, before)


class VettedTest(RunTestCase):
    def test_no_fact_no_name_no_rule_no_rounds(self):
        worths = dict.fromkeys("abcdef", 1)
        for odd in [None, 1, "a", ("a", "t"), ["f", "t", (1,)], ("f", "t", [1]), ("F", "t", (1,)), ("f", "t", ("X",)),
                    ("f", "t", (True,))] + ODD_THINGS:
            self.assert_refused(NoFact, FACTS + [odd], [STEP], 1, Counts(), worths)
            self.assert_refused(NoFact, [odd] + FACTS, [STEP], 1, Counts(), worths)
        self.assert_refused(NoName, FACTS + [("a", "t", (1,))], [STEP], 1, Counts(), worths)
        for odd in [None, 1, "a", STEP[:2], list(STEP), (("p", ("X",)), (), ())] + ODD_THINGS:
            self.assert_refused(NoRule, FACTS, [STEP, odd], 1, Counts(), worths)
        for odd in [-1, 6, SIXTY_FIGURES, True, False, "1", None, [], (1,)] + ODD_THINGS:
            self.assert_refused(NoRounds, FACTS, [STEP], odd, Counts(), worths)

    def test_a_name_that_the_dict_has_not(self):
        for by, worths in RECKONINGS:
            for name in "abcde":
                for rounds in (0, 2):
                    handed = {key: worth for key, worth in worths.items() if key != name}
                    self.assert_refused(NoWorth, FACTS, [STEP], rounds, by, handed)
            self.assert_refused(NoWorth, FACTS, [], 0, by, {})
            self.assert_refused(NoWorth, FACTS[:1], [], 0, by, {"A": worths["a"], "aa": worths["a"]})

    def test_a_worth_that_is_none_of_the_reckonings(self):
        kinds = [None, True, False, 0, -1, 101, FOUR_HUNDRED_FIGURES, "a", "", [], [0], [()], [("x",)], (), (0,),
                 [2, 1], [True], [["x"]], [("y",), ("x",)], [0] * 10]
        for by, worths in RECKONINGS:
            for thing, name in itertools.product(kinds, "ade"):
                handed = dict(worths)
                handed[name] = thing
                if by.fits(thing):
                    run(FACTS, [STEP], 1, by, handed)
                else:
                    self.assert_refused(NoWorth, FACTS, [STEP], 1, by, handed)
                    self.assert_refused(NoWorth, FACTS, [], 0, by, handed)

    def test_some_worths_by_name(self):
        for by, things in [
            (Counts(), [-1, True, None, [], "1"]), (Costs(), [True, False, "1", [1], ()]),
            (Bests(2), [[1, 2, 3], [2, 1], [True], (1,), None, 1]), (Trusts(9), [10, -1, True, None, [9]]),
            (Truths(), [0, 1, None, "", [True]]), (Hands(), [None, (), [["x"]], [("y",), ("x",)], [("x", "x")]]),
        ]:
            for thing in things:
                self.assert_refused(NoWorth, [("a", "p", (1,))], [], 0, by, {"a": thing})

    def test_other_names_do_not_matter(self):
        for by, worths in RECKONINGS:
            expected = naive_run(FACTS, [STEP], 1, by, worths)
            for thing in [None, True, -1, 1, "a", [], [2, 1], (), [["x"]], FOUR_HUNDRED_FIGURES]:
                handed = dict(worths)
                handed.update({"f": thing, "aa": thing, "z": thing, "edge": thing})
                self.assert_run(FACTS, [STEP], 1, by, handed, expected)

    def test_several_faults_at_once(self):
        # Each list begins with what is right; the faults come in the order in which they are due.
        many = [("m" + str(number), "m", (number,)) for number in range(61)]
        fine = {name: 1 for name, table, row in many}
        for no_fact, no_name, no_rule, no_rounds, no_worth in itertools.product([False, True], repeat=5):
            facts = many + ([many[3]] if no_name else []) + ([("m", "m")] if no_fact else [])
            rules = [STEP] + ([(("p", ("X",)), (), ())] if no_rule else [])
            worths = {"m60": -1} if no_worth else fine
            expected = TooMuch
            for fault, error in [(no_worth, NoWorth), (no_rounds, NoRounds), (no_rule, NoRule), (no_fact, NoFact),
                                 (no_name, NoName)]:
                expected = error if fault else expected
            self.assert_refused(expected, facts, rules, 9 if no_rounds else 2, Counts(), worths)
        self.assert_refused(NoFact, [("m", "m")] + many + many, [None], None, Counts(), {})


def singles(many):
    return [("n" + str(number), "p", (number,)) for number in range(many)]


def ones(facts):
    return {name: 1 for name, table, row in facts}


class TooMuchTest(RunTestCase):
    def test_sixty_rows_of_facts_and_sixty_one(self):
        for rounds in range(6):
            facts = singles(60)
            behind = [("p", (number,), 1) for number in range(60)]
            self.assert_run(facts, [], rounds, Counts(), ones(facts), [behind] * (rounds + 1))
            facts = singles(61)
            self.assert_refused(TooMuch, facts, [], rounds, Counts(), ones(facts))

    def test_all_tables_together(self):
        for many, error in [(60, None), (61, TooMuch)]:
            facts = [("n" + str(n), "t" + str(n % 7), (n,)) for n in range(many)]
            if error is None:
                self.assert_as_naive(facts, [], 1, Counts(), ones(facts))
            else:
                self.assert_refused(error, facts, [], 1, Counts(), ones(facts))

    def test_several_facts_of_one_row_are_one_row(self):
        facts = [("n" + str(number), "p", (number % 60,)) for number in range(300)]
        self.assert_run(facts, [], 1, Counts(), ones(facts), [[("p", (n,), 5) for n in range(60)]] * 2)
        self.assert_refused(TooMuch, facts[:299] + [("more", "p", (60,))], [], 1, Counts(), ones(facts) | {"more": 1})

    def test_rows_of_rules(self):
        for many in (29, 30, 31):
            facts = singles(many)
            rule = (("q", ("X",)), (("p", ("X",)),), ())
            if many <= 30:
                self.assert_as_naive(facts, [rule], 2, Counts(), ones(facts))
            else:
                self.assert_run(facts, [rule], 0, Counts(), ones(facts), [[("p", (n,), 1) for n in range(many)]])
                self.assert_refused(TooMuch, facts, [rule], 1, Counts(), ones(facts))
                self.assert_refused(TooMuch, facts, [rule], 5, Counts(), ones(facts))
        rules = [(("p", (number,)), (), ()) for number in range(61)]
        self.assert_as_naive([], rules[:60], 2, Counts(), {})
        self.assert_refused(TooMuch, [], rules, 1, Counts(), {})
        self.assert_run([], rules, 0, Counts(), {}, [[]])

    def test_a_row_that_stands_already_is_none_too_many(self):
        facts = singles(60)
        rule = (("p", ("X",)), (("p", ("X",)), ("p", ("Y",))), (("=", "Y", 59),))
        self.assert_as_naive(facts, [rule, (("p", (7,)), (), ())], 2, Counts(), ones(facts))
        self.assert_refused(TooMuch, facts, [rule, (("p", (60,)), (), ())], 1, Counts(), ones(facts))

    def test_the_last_round_alone_counts(self):
        # One row more behind each round: 56 facts, and four to five rows that come one by one.
        facts = singles(55) + [("z", "q0", ())]
        rules = [(("q" + str(number + 1), ()), (("q" + str(number), ()),), ()) for number in range(5)]
        for rounds in range(5):
            self.assertEqual([len(behind) for behind in run(facts, rules, rounds, Counts(), ones(facts))],
                             [56, 57, 58, 59, 60][:rounds + 1])
        self.assert_refused(TooMuch, facts, rules, 5, Counts(), ones(facts))

    def test_rows_whose_worth_is_the_nought_are_counted(self):
        facts = singles(61)
        for by, worths in RECKONINGS:
            self.assert_refused(TooMuch, facts, [], 0, by, {name: by.nought() for name, table, row in facts})

    def test_given_up_without_long_waiting(self):
        crossed = (("t", ("X", "Y", "Z")), (("p", ("X",)), ("p", ("Y",)), ("p", ("Z",))), ())
        grown = (("t", ("A", "B", "C", "D")), (("t", ("A", "B")), ("t", ("C", "D"))), ())
        paired = (("t", ("X", "Y")), (("p", ("X",)), ("p", ("Y",))), ())
        ever = (("p", ("Y",)), (("t", ("X", "Y", "Z")), ("t", ("Y", "Z", "X")), ("t", ("W", "V", "U"))), ())
        with within(60):
            for by, worths in RECKONINGS:
                for many, rules in [(60, [crossed]), (60, [crossed] * 300), (10, [crossed, ever]),
                                    (7, [paired, grown, ever]), (59, [paired, crossed, grown])]:
                    facts = singles(many)
                    handed = {name: worths["a"] for name, table, row in facts}
                    self.assert_refused(TooMuch, facts, rules, 5, by, handed)

    def test_much_to_reckon_ahead_of_a_row_too_many(self):
        # Behind round 1 forty times forty times forty instances lead to one row, behind round 2 there is too much.
        facts = singles(40)
        heavy = (("q", ()), (("p", ("X",)), ("p", ("Y",)), ("p", ("Z",))), ())
        burst = (("r", ("X", "Y")), (("q", ()), ("p", ("X",)), ("p", ("Y",))), ())
        worths = {name: [("u",), ("v", "w"), ("x", "y")] for name, table, row in facts}
        with within(60):
            self.assert_refused(TooMuch, facts, [heavy, burst], 2, Hands(), worths)


def some_facts(chance, values, most_terms):
    facts = []
    for name in "abcdef"[:chance.randrange(7)]:
        row = tuple(chance.choices(values, k=chance.randrange(most_terms + 1)))
        facts.append((name, chance.choice(["p", "q", "r"]), row))
    return facts


class ManyTest(RunTestCase):
    def test_runs_of_all_sorts(self):
        chance = random.Random(22)
        values = [1, 2, "a"]
        for step in range(150):
            facts = some_facts(chance, values, 2)
            rules = [some_rule(chance, ["p", "q", "r", "s"], values, 2) for number in range(chance.randrange(4))]
            by, worths = RECKONINGS[step % len(RECKONINGS)]
            # Four tables of three values at up to two places never have more than sixty rows.
            self.assert_as_naive(facts, rules, chance.randrange(4), by, worths)

    def test_runs_with_too_many_rows_among_them(self):
        chance = random.Random(25)
        values = [0, 10, "a"]
        refused = 0
        for step in range(150):
            # Of these come 57 rows, and some more of the others.
            facts = some_facts(chance, values, 3) + [("g", "q", (0,)), ("h", "q", (10,)), ("i", "q", ("a",))]
            rules = [some_rule(chance, ["p", "q"], values, 2) for number in range(chance.randrange(2))]
            rules.append((("p", ("X", "Y", "Z")), (("q", ("X",)), ("q", ("Y",)), ("q", ("Z",))), ()))
            rules.append((("q", ("Y", "Z", "X")), (("p", ("X", "Y", "Z")),), ()))
            expected = naive_run(facts, rules, 2, Counts(), dict.fromkeys("abcdefghi", 1))
            if len(expected[-1]) > 60:
                refused += 1
                self.assert_refused(TooMuch, facts, rules, 2, Counts(), dict.fromkeys("abcdefghi", 1))
            else:
                self.assert_run(facts, rules, 2, Counts(), dict.fromkeys("abcdefghi", 1), expected)
        self.assertGreater(refused, 20)
        self.assertLess(refused, 130)

    def test_the_whys_reckoned_are_the_worths(self):
        chance = random.Random(3)
        values = [1, 2, "a"]
        for step in range(60):
            facts = some_facts(chance, values, 2)
            rules = [some_rule(chance, ["p", "q", "r"], values, 2) for number in range(chance.randrange(1, 3))]
            whys = naive_run(facts, rules, 2, AsWhys(), {name: of_fact(name) for name in "abcdef"})
            if max([len(why) for behind in whys for table, row, why in behind], default=0) <= 50:
                for by, worths in RECKONINGS:
                    expected = [[(table, row, reckoned(why, by, worths)) for table, row, why in behind]
                                for behind in whys]
                    self.assert_run(facts, rules, 2, by, worths, expected)

    def test_what_is_told_stands_in_order(self):
        chance = random.Random(5)
        values = [9, 10, "a", "a10", "a9"]
        for step in range(60):
            facts = some_facts(chance, values, 2)
            rules = [some_rule(chance, ["a", "a1", "b"], values, 1) for number in range(2)]
            for behind in run(facts, rules, 3, Truths(), dict.fromkeys("abcdef", True)):
                keys = [(table, key_of_row(row)) for table, row, worth in behind]
                self.assertTrue(all(one < other for one, other in zip(keys, keys[1:])))


if __name__ == "__main__":
    unittest.main()
