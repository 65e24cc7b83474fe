import copy
import itertools
import random
import unittest

from helpers import ODD_THINGS, SIXTY_FIGURES, HandedOver, alike, singles, within
from naive import key_of_row, naive_trees, naive_whys, some_runs
from whyrows.errors import NoFact, NoName, NoRounds, NoRule, TooMuch
from whyrows.parts import ways_of, without
from whyrows.reckonings import Bests, Costs, Counts, Hands, Trusts, Truths
from whyrows.runs import run
from whyrows.trees import leaves
from whyrows.whyruns import why_run
from whyrows.whys import gathered, is_why
from whyrows.worths import reckoned

MUCH = SIXTY_FIGURES
ONE = [((), 1)]
STEP = (("way", ("X", "Y")), (("edge", ("X", "Y")),), ())
LONGER = (("way", ("X", "Z")), (("edge", ("X", "Y")), ("way", ("Y", "Z"))), ())
TWICE = (("both", ("X",)), (("p", ("X",)), ("p", ("X",))), ())
FREE = (("p", (1,)), (), ())
FACTS = [("a", "edge", (1, 2)), ("b", "edge", (2, 3)), ("c", "edge", (3, 1)), ("d", "edge", (1, 2)), ("e", "mark", ())]


def just(*names):
    """The why of one product, in one way."""
    return [(tuple(sorted(names)), 1)]


def either(*names):
    """The why of several names, each enough by itself."""
    return [((name,), 1) for name in sorted(names)]


def why_of(told, table, row):
    """What is told of one pair behind the last round."""
    found = [why for other_table, other_row, why in told[-1] if (other_table, other_row) == (table, row)]
    assert len(found) == 1
    return found[0]


class WhyRunTestCase(unittest.TestCase, HandedOver):
    def assert_why_run(self, facts, rules, rounds, expected):
        with self.subTest(facts=repr(facts)[:200], rules=repr(rules)[:200], rounds=rounds):
            def call(handed_facts, handed_rules):
                return why_run(handed_facts, handed_rules, rounds)

            self.assert_own_answer(call, lambda: (list(facts), list(rules)), expected)
            told = why_run(facts, rules, rounds)
            self.assertIs(told.__class__, list)
            self.assertEqual(len(told), rounds + 1)
            for behind in told:
                self.assertIs(behind.__class__, list)
                for told_row in behind:
                    self.assertIs(told_row.__class__, tuple)
                    self.assertTrue(is_why(told_row[2]) and told_row[2] != [])
                keys = [(table, key_of_row(row)) for table, row, why in behind]
                self.assertTrue(all(one < other for one, other in zip(keys, keys[1:])))

    def assert_as_naive(self, facts, rules, rounds):
        self.assert_why_run(facts, rules, rounds, naive_whys(facts, rules, rounds))

    def assert_refused(self, error, facts, rules, rounds):
        with self.subTest(error=error.__name__, facts=repr(facts)[:200], rules=repr(rules)[:200], rounds=rounds):
            before = copy.deepcopy((facts, rules))
            with self.assertRaises(error) as caught:
                why_run(facts, rules, rounds)
            self.assertIs(caught.exception.__class__, error)
            self.assertEqual((facts, rules), before)


class RowsTest(WhyRunTestCase):
    def test_no_facts_and_no_rules(self):
        for rounds in range(6):
            self.assert_why_run([], [], rounds, [[]] * (rounds + 1))
            self.assert_why_run([], [STEP, LONGER], rounds, [[]] * (rounds + 1))

    def test_facts_alone(self):
        behind = [("edge", (1, 2), either("a", "d")), ("edge", (2, 3), just("b")), ("edge", (3, 1), just("c")),
                  ("mark", (), just("e"))]
        for rounds in range(6):
            self.assert_why_run(FACTS, [], rounds, [behind] * (rounds + 1))
            # A rule that finds nothing changes nothing.
            self.assert_why_run(FACTS, [(("mark", ()), (("none", ()),), ())], rounds, [behind] * (rounds + 1))
        self.assert_why_run(FACTS, [STEP, LONGER, FREE], 0, [behind])

    def test_a_round_builds_on_the_round_ahead(self):
        facts = [("a", "p0", (1,))]
        rules = [(("p" + str(number + 1), ("X",)), (("p" + str(number), ("X",)),), ()) for number in range(6)]
        for some in (rules, rules[::-1]):
            expected = [[("p" + str(number), (1,), just("a")) for number in range(rounds + 1)] for rounds in range(6)]
            self.assert_why_run(facts, some, 5, expected)

    def test_rules_that_go_round_through_all_rounds(self):
        facts = [("a", "edge", (1, 2)), ("b", "edge", (2, 1))]
        edges = [("edge", (1, 2), just("a")), ("edge", (2, 1), just("b"))]
        there, back, odd_there, odd_back = [], [], [], []
        expected = [edges]
        for rounds in range(1, 6):
            # Of each round comes one longer way, to and fro by turns.
            half = ["a", "b"] * (rounds // 2)
            if rounds % 2 == 1:
                odd_there, odd_back = odd_there + just("a", *half), odd_back + just("b", *half)
            else:
                there, back = there + just(*half), back + just(*half)
            ways = [("way", (1, 1), there), ("way", (1, 2), sorted(odd_there)), ("way", (2, 1), sorted(odd_back)),
                    ("way", (2, 2), back)]
            expected.append(edges + [(table, row, sorted(why)) for table, row, why in ways if why != []])
        self.assert_why_run(facts, [STEP, LONGER], 5, expected)
        self.assert_as_naive(facts, [LONGER, STEP], 5)

    def test_tables_with_rows_of_several_lengths(self):
        facts = [("a", "t", ()), ("b", "t", (1,)), ("c", "t", (1, 2)), ("d", "t", ("a", 2, 3, 4))]
        rules = [(("t", ("X", "Y", "X")), (("t", ("X", "Y")),), ()),
                 (("t", ("X",)), (("t", ()), ("t", ("X", "Y", "Z", "W"))), ())]
        first = [("t", (), just("a")), ("t", (1,), just("b")), ("t", (1, 2), just("c")),
                 ("t", ("a", 2, 3, 4), just("d"))]
        later = first[:3] + [("t", (1, 2, 1), just("c")), ("t", ("a",), just("a", "d"))] + first[3:]
        self.assert_why_run(facts, rules, 2, [first, later, later])

    def test_in_order_by_table_then_by_row(self):
        rows = [(), (-MUCH,), (-1,), (9,), (9, 0), (9, "a"), (10,), (MUCH,), ("a",), ("a", 1), ("a10",), ("a9",),
                ("b",)]
        tables = ["a", "a0", "a00", "a1", "aa", "b10", "b9", "z"]
        pairs = list(itertools.product(tables, rows))[::2]
        facts = [("n" + str(number), table, row) for number, (table, row) in enumerate(pairs)]
        expected = [(table, row, just(name)) for name, table, row in facts]
        random.Random(5).shuffle(facts)
        self.assert_why_run(facts, [], 1, [expected] * 2)
        rules = [((table, row), (), ()) for table, row in pairs]
        random.Random(6).shuffle(rules)
        self.assert_why_run([], rules, 1, [[], [(table, row, ONE) for table, row in pairs]])


class WhysTest(WhyRunTestCase):
    def test_several_facts_of_one_row(self):
        facts = [("b", "p", (1,)), ("c", "p", (1,)), ("a10", "p", (1,)), ("a9", "p", (1,)), ("d", "q", (1,))]
        behind = [("p", (1,), either("a10", "a9", "b", "c")), ("q", (1,), just("d"))]
        for some in itertools.permutations(facts, 5):
            self.assertEqual(why_run(list(some), [], 1), [behind] * 2)
        rule = (("r", ("X",)), (("p", ("X",)), ("q", ("X",))), ())
        product = [(tuple(sorted([name, "d"])), 1) for name in ("a10", "a9", "b", "c")]
        self.assert_why_run(facts, [rule], 1, [behind, behind + [("r", (1,), product)]])

    def test_two_rules_that_are_written_alike(self):
        facts = [("a", "edge", (1, 2)), ("b", "edge", (2, 3))]
        edges = [("edge", (1, 2), just("a")), ("edge", (2, 3), just("b"))]
        for many in range(1, 5):
            ways = [("way", (1, 2), [(("a",), many)]), ("way", (2, 3), [(("b",), many)])]
            self.assert_why_run(facts, [STEP] * many, 2, [edges, edges + ways, edges + ways])
        self.assert_why_run([], [FREE] * 3, 1, [[], [("p", (1,), [((), 3)])]])

    def test_a_row_that_is_used_twice_is_a_factor_twice(self):
        self.assert_why_run([("a", "p", (1,))], [TWICE], 1, [
            [("p", (1,), just("a"))], [("both", (1,), just("a", "a")), ("p", (1,), just("a"))]])
        # Two facts of it: the one with itself, with the other in two ways, the other with itself.
        self.assert_why_run([("a", "p", (1,)), ("b", "p", (1,))], [TWICE], 1, [
            [("p", (1,), either("a", "b"))],
            [("both", (1,), [(("a", "a"), 1), (("a", "b"), 2), (("b", "b"), 1)]), ("p", (1,), either("a", "b"))]])
        thrice = (("q", ()), (("p", ("X",)),) * 3, ())
        self.assertEqual(why_of(why_run([("a", "p", (1,)), ("b", "p", (1,))], [thrice], 1), "q", ()),
                         [(("a",) * 3, 1), (("a", "a", "b"), 3), (("a", "b", "b"), 3), (("b",) * 3, 1)])

    def test_one_row_in_two_tables_is_two_factors(self):
        rule = (("r", ("X",)), (("q", ("X",)), ("p", ("X",)), ("q", ("X",))), ())
        told = why_run([("b", "p", (1,)), ("a", "q", (1,))], [rule], 1)
        self.assertEqual(why_of(told, "r", (1,)), just("a", "a", "b"))

    def test_several_instances_of_one_row(self):
        rule = (("p", ()), (("edge", ("X", "Y")),), ())
        told = why_run(FACTS, [rule], 1)
        self.assertEqual(why_of(told, "p", ()), either("a", "b", "c", "d"))
        pairs = (("p", ()), (("edge", ("X", "Y")), ("edge", ("Z", "W"))), (("!=", "X", "Z"),))
        self.assertEqual(why_of(why_run(FACTS[:3], [pairs], 1), "p", ()),
                         [(("a", "b"), 2), (("a", "c"), 2), (("b", "c"), 2)])

    def test_a_rule_with_an_empty_body(self):
        self.assert_why_run([], [FREE], 3, [[]] + [[("p", (1,), ONE)]] * 3)
        self.assert_why_run([], [(FREE[0], (), (("<", 1, 2),))], 1, [[], [("p", (1,), ONE)]])
        self.assert_why_run([], [(FREE[0], (), (("<", 2, 1),))], 2, [[]] * 3)
        # What needs no fact adds no factor.
        self.assert_why_run([("a", "p", (1,))], [FREE, TWICE], 2, [
            [("p", (1,), just("a"))], [("both", (1,), just("a", "a")), ("p", (1,), ONE + just("a"))],
            [("both", (1,), [((), 1), (("a",), 2), (("a", "a"), 1)]), ("p", (1,), ONE + just("a"))]])

    def test_a_row_that_is_a_facts_and_comes_of_a_rule(self):
        facts = [("a", "edge", (1, 2)), ("b", "way", (1, 2)), ("c", "way", (2, 1))]
        first = [("edge", (1, 2), just("a")), ("way", (1, 2), just("b")), ("way", (2, 1), just("c"))]
        later = [first[0], ("way", (1, 2), either("a", "b")), first[2]]
        self.assert_why_run(facts, [STEP], 2, [first, later, later])

    def test_ways_are_counted_through_the_rounds(self):
        # Each round doubles what stands, and adds the fact anew.
        loop = (("p", ("X",)), (("p", ("X",)),), ())
        expected = [[("p", (1,), [(("a",), ways)])] for ways in (1, 3, 7, 15, 31, 63)]
        self.assert_why_run([("a", "p", (1,))], [loop, loop], 5, expected)
        squared = (("p", ()), (("p", ()), ("p", ())), ())
        self.assert_as_naive([("a", "p", ())], [squared], 5)

    def test_numbers_of_sixty_figures_either_way(self):
        facts = [("a", "p", (MUCH, -MUCH)), ("b", "p", (-MUCH, MUCH)), ("c", "p", (MUCH - 1, 0))]
        rules = [(("q", ("X",)), (("p", ("X", "Y")), ("p", ("Y", "X"))), (("<", "X", "Y"),)),
                 (("q", (MUCH,)), (("p", ("X", 0)), ("p", (MUCH, "Y"))), (("<", "X", MUCH), ("!=", "Y", MUCH)))]
        first = [("p", (-MUCH, MUCH), just("b")), ("p", (MUCH - 1, 0), just("c")), ("p", (MUCH, -MUCH), just("a"))]
        self.assert_why_run(facts, rules, 1, [
            first, first + [("q", (-MUCH,), just("a", "b")), ("q", (MUCH,), just("a", "c"))]])

    def test_ways_through_a_net(self):
        facts = [("a", "edge", (1, 2)), ("b", "edge", (2, 3)), ("c", "edge", (1, 3)), ("d", "edge", (3, 1))]
        told = why_run(facts, [STEP, LONGER], 3)
        found = [why for behind in told for table, row, why in behind if (table, row) == ("way", (1, 3))]
        self.assertEqual(found, [just("c"), just("a", "b") + just("c"),
                                 just("a", "b") + just("c") + just("c", "c", "d")])
        self.assert_as_naive(facts, [STEP, LONGER], 3)

    def test_choices_and_three_atoms(self):
        rule = (("tri", ("X",)), (("edge", ("X", "Y")), ("edge", ("Y", "Z")), ("edge", ("Z", "X"))),
                (("<", "X", "Y"), ("<", "X", "Z")))
        self.assertEqual(why_of(why_run(FACTS, [rule], 1), "tri", (1,)), just("a", "b", "c") + just("b", "c", "d"))
        self.assert_as_naive(FACTS, [rule, STEP, FREE], 2)


class OwnAnswersTest(WhyRunTestCase):
    def test_no_list_at_two_places(self):
        # The whys stay the same from round to round, and are alike from row to row.
        for rules in ([], [STEP], [STEP, FREE, (("q", ()), (), ()), (("q", (1,)), (), ())]):
            told = why_run(FACTS, rules, 5)
            before = copy.deepcopy(told)
            lists = [told] + told + [why for behind in told for table, row, why in behind]
            self.assertEqual(len({id(one) for one in lists}), len(lists))
            told[5][0][2].append("spoilt")
            self.assertEqual(told[:5], before[:5])
            self.assertEqual(told[5][1:], before[5][1:])
            for one in lists:
                one.clear()
            self.assertEqual(why_run(FACTS, rules, 5), before)

    def test_a_change_of_what_was_handed_in(self):
        facts, rules = list(FACTS), [STEP]
        told = why_run(facts, rules, 1)
        before = copy.deepcopy(told)
        facts.clear()
        rules.append(FREE)
        self.assertEqual(told, before)
        self.assertEqual(why_run(FACTS, [STEP], 1), before)


class VettedTest(WhyRunTestCase):
    def test_no_fact_no_name_no_rule_no_rounds(self):
        for odd in [None, 1, "a", ("a", "t"), ["f", "t", (1,)], ("f", "t", [1]), ("F", "t", (1,)), ("f", "t", ("X",)),
                    ("f", "t", (True,))] + ODD_THINGS:
            self.assert_refused(NoFact, FACTS + [odd], [STEP], 1)
            self.assert_refused(NoFact, [odd] + FACTS, [], 0)
        self.assert_refused(NoName, FACTS + [("a", "t", (1,))], [STEP], 1)
        self.assert_refused(NoName, FACTS + FACTS[:1], [], 0)
        for odd in [None, 1, "a", STEP[:2], list(STEP), (("p", ("X",)), (), ())] + ODD_THINGS:
            self.assert_refused(NoRule, FACTS, [STEP, odd], 1)
            self.assert_refused(NoRule, [], [odd], 0)
        for odd in [-1, 6, SIXTY_FIGURES, True, False, "1", None, [], (1,)] + ODD_THINGS:
            self.assert_refused(NoRounds, FACTS, [STEP], odd)
            self.assert_refused(NoRounds, [], [], odd)

    def test_the_first_fault_among_the_facts(self):
        self.assert_refused(NoName, [FACTS[0], FACTS[0], None], [], 1)
        self.assert_refused(NoFact, [FACTS[0], None, FACTS[0]], [], 1)
        self.assert_refused(NoFact, [FACTS[0], ("a", "t")], [], 1)

    def test_several_faults_at_once(self):
        # Each list begins with what is right; the faults come in the order in which they are due.
        for many in ([("m" + str(n), "m", (n,)) for n in range(61)], [("m" + str(n), "m", ()) for n in range(51)]):
            for no_fact, no_name, no_rule, no_rounds in itertools.product([False, True], repeat=4):
                facts = many + ([many[3]] if no_name else []) + ([("m", "m")] if no_fact else [])
                rules = [STEP] + ([(("p", ("X",)), (), ())] if no_rule else [])
                expected = TooMuch
                for fault, error in [(no_rounds, NoRounds), (no_rule, NoRule), (no_fact, NoFact), (no_name, NoName)]:
                    expected = error if fault else expected
                self.assert_refused(expected, facts, rules, 9 if no_rounds else 2)
            self.assert_refused(NoFact, [("m", "m")] + many + many, [None], None)


class TooManyRowsTest(WhyRunTestCase):
    def test_sixty_rows_of_facts_and_sixty_one(self):
        for rounds in range(6):
            behind = [("p", (number,), just("n" + str(number))) for number in range(60)]
            self.assert_why_run(singles(60), [], rounds, [behind] * (rounds + 1))
            self.assert_refused(TooMuch, singles(61), [], rounds)

    def test_all_tables_together(self):
        facts = [("n" + str(n), "t" + str(n % 7), (n,)) for n in range(61)]
        self.assert_as_naive(facts[:60], [], 1)
        self.assert_refused(TooMuch, facts, [], 1)

    def test_several_facts_of_one_row_are_one_row(self):
        facts = [("n" + str(number), "p", (number % 60,)) for number in range(300)]
        self.assert_as_naive(facts, [], 1)
        self.assert_refused(TooMuch, facts[:299] + [("more", "p", (60,))], [], 1)

    def test_rows_of_rules(self):
        rule = (("q", ("X",)), (("p", ("X",)),), ())
        self.assert_as_naive(singles(30), [rule], 2)
        self.assert_as_naive(singles(31), [rule], 0)
        for rounds in (1, 5):
            self.assert_refused(TooMuch, singles(31), [rule], rounds)
        rules = [(("p", (number,)), (), ()) for number in range(61)]
        self.assert_as_naive([], rules[:60], 2)
        self.assert_refused(TooMuch, [], rules, 1)
        self.assert_why_run([], rules, 0, [[]])

    def test_the_last_round_alone_counts(self):
        facts = singles(55) + [("z", "q0", ())]
        rules = [(("q" + str(number + 1), ()), (("q" + str(number), ()),), ()) for number in range(5)]
        for rounds in range(5):
            self.assertEqual([len(behind) for behind in why_run(facts, rules, rounds)],
                             [56, 57, 58, 59, 60][:rounds + 1])
        self.assert_refused(TooMuch, facts, rules, 5)

    def test_a_row_that_stands_already_is_none_too_many(self):
        rule = (("p", ("X",)), (("p", ("X",)), ("p", ("Y",))), (("=", "Y", 59),))
        self.assert_as_naive(singles(60), [rule, (("p", (7,)), (), ())], 2)
        self.assert_refused(TooMuch, singles(60), [rule, (("p", (60,)), (), ())], 1)


class TooManyProductsTest(WhyRunTestCase):
    def test_fifty_products_of_facts_and_fifty_one(self):
        for rounds in range(6):
            expected = [("p", (), either(*["n" + str(number) for number in range(50)]))]
            self.assert_why_run(alike(50), [], rounds, [expected] * (rounds + 1))
            self.assert_refused(TooMuch, alike(51), [], rounds)
            self.assert_refused(TooMuch, alike(300), [], rounds)

    def test_a_sum(self):
        # q has the product of each p.
        rule = (("q", ()), (("p", ("X",)),), ())
        self.assert_as_naive(singles(50), [rule], 2)
        self.assert_why_run(singles(51), [rule], 0, [[("p", (n,), just("n" + str(n))) for n in range(51)]])
        for rounds in (1, 2, 5):
            self.assert_refused(TooMuch, singles(51), [rule], rounds)
        # Of facts and rules, and of several rules, together.
        self.assert_as_naive(singles(49) + [("z", "q", ())], [rule], 2)
        self.assert_refused(TooMuch, singles(50) + [("z", "q", ())], [rule], 1)
        self.assert_as_naive(singles(49), [rule, (("q", ()), (), ())], 2)
        self.assert_refused(TooMuch, singles(50), [(("q", ()), (), ()), rule], 1)

    def test_a_product(self):
        rule = (("r", ()), (("p", ()), ("q", ())), ())
        for one, other in [(5, 10), (10, 5), (1, 50), (50, 1), (2, 25), (7, 7)]:
            self.assert_as_naive(alike(one) + alike(other, "q", "m"), [rule], 2)
        for one, other in [(3, 17), (17, 3), (26, 2), (2, 26), (8, 7), (50, 50)]:
            facts = alike(one) + alike(other, "q", "m")
            self.assert_refused(TooMuch, facts, [rule], 1)
            self.assert_refused(TooMuch, facts, [rule], 5)
            self.assert_as_naive(facts, [rule], 0)
        thrice = (("r", ()), (("p", ()), ("q", ()), ("s", ())), ())
        self.assert_as_naive(alike(5) + alike(5, "q", "m") + alike(2, "s", "k"), [thrice], 1)
        self.assert_refused(TooMuch, alike(4) + alike(4, "q", "m") + alike(4, "s", "k"), [thrice], 1)

    def test_what_is_alike_is_one_product(self):
        # Nine names, two by two: 45 products. Ten: 55.
        pairs = (("r", ()), (("p", ("X",)), ("p", ("Y",))), ())
        self.assert_as_naive(singles(9), [pairs], 2)
        self.assertEqual(len(why_of(why_run(singles(9), [pairs], 1), "r", ())), 45)
        self.assert_refused(TooMuch, singles(10), [pairs], 1)
        # 300 rules that are written alike give no more products than one.
        told = why_run(singles(9), [pairs] * 300, 1)
        self.assertEqual({ways for product, ways in why_of(told, "r", ())}, {300, 600})

    def test_behind_the_last_round_and_behind_an_earlier_one(self):
        # The 51st product comes behind round 1, 2, .., 5: the runs that end ahead of it are told.
        for late in range(1, 6):
            chain = [(("q" + str(n + 1), ("X",)), (("q" + str(n), ("X",)),), ()) for n in range(late - 1)]
            last = (("end", ()), (("q" + str(late - 1), ("X",)),), ())
            for refused in (False, True):
                facts = [("n" + str(n), "q0", (n % 10,)) for n in range(51 if refused else 50)]
                for rounds in range(6):
                    if refused and rounds >= late:
                        self.assert_refused(TooMuch, facts, chain + [last], rounds)
                    else:
                        self.assert_as_naive(facts, chain + [last], rounds)

    def test_each_row_has_fifty_of_its_own(self):
        facts = [("n" + str(number), "p", (number % 5,)) for number in range(250)]
        self.assert_as_naive(facts, [], 1)
        self.assert_refused(TooMuch, facts[:-1] + [("more", "p", (3,))], [], 1)
        # Thirty rows of thirty products each: 900 together.
        rule = (("q", ("X",)), (("p", ("X",)), ("p", ("Y",))), ())
        self.assert_as_naive(singles(30), [rule], 1)

    def test_what_leads_nowhere_is_not_counted(self):
        # Joined on, the first atoms would have far more than fifty products, but nothing comes of them.
        facts = singles(40)
        for last in [("none", ()), ("p", ("X", "Y")), ("p", ("a",)), ("one", ("X", "Y"))]:
            for body in itertools.permutations([("p", ("X",)), ("p", ("Y",)), last]):
                self.assert_why_run(facts, [(("q", ()), body, ())], 1, naive_whys(facts, [], 1))
        body = (("p", ("X",)), ("p", ("Y",)), ("p", ("Z",)))
        for choices in [(("=", 1, 2),), (("<", "X", "Y"), ("<", "Y", "X")), (("<", "X", "Y"), ("<", "Z", 0)),
                        (("<", "X", "Y"), ("<", "Y", "Z"), ("<", "Z", "X"))]:
            self.assert_why_run(facts, [(("q", ()), body, choices)], 1, naive_whys(facts, [], 1))
        # And a few of them lead somewhere.
        for body in itertools.permutations([("p", ("X",)), ("p", ("Y",)), ("one", ("X", "Y"))]):
            some = facts + [("a", "one", (1, 2)), ("b", "one", (3, 3)), ("c", "one", (50, 1))]
            expected = just("a", "n1", "n2") + just("b", "n3", "n3")
            self.assertEqual(why_of(why_run(some, [(("q", ()), body, ())], 1), "q", ()), expected)
        # A row that stands as a fact, and that no instance leads to.
        rule = (("q", ("X",)), (("p", ("Y",)), ("p", ("Z",)), ("one", ("X",))), ())
        self.assert_as_naive(facts + [("a", "q", (1,))], [rule], 2)

    def test_rows_sixty_and_products_fifty_at_once(self):
        facts = [("n" + str(n), "p", (n % 60,)) for n in range(240)] + [("m" + str(n), "p", (7,)) for n in range(46)]
        told = why_run(facts, [], 5)
        self.assertEqual((len(told[5]), max(len(why) for table, row, why in told[5])), (60, 50))
        self.assertEqual(told, naive_whys(facts, [], 5))


class WithoutLongWaitingTest(WhyRunTestCase):
    def test_very_many_rows(self):
        crossed = (("t", ("X", "Y", "Z")), (("p", ("X",)), ("p", ("Y",)), ("p", ("Z",))), ())
        grown = (("t", ("A", "B", "C", "D")), (("t", ("A", "B")), ("t", ("C", "D"))), ())
        paired = (("t", ("X", "Y")), (("p", ("X",)), ("p", ("Y",))), ())
        ever = (("p", ("Y",)), (("t", ("X", "Y", "Z")), ("t", ("Y", "Z", "X")), ("t", ("W", "V", "U"))), ())
        with within(60):
            for many, rules in [(60, [crossed]), (60, [crossed] * 300), (10, [crossed, ever]),
                                (7, [paired, grown, ever]), (59, [paired, crossed, grown])]:
                self.assert_refused(TooMuch, singles(many), rules, 5)

    def test_very_many_products(self):
        body = (("p", ("X",)), ("p", ("Y",)), ("p", ("Z",)))
        unlike = (("!=", "X", "Y"), ("!=", "Y", "Z"), ("!=", "X", "Z"))
        cubed = (("p", ("X",)), (("p", ("X",)),) * 3, ())
        mixed = (("p", ("X",)), body, ())
        with within(60):
            for rules in [[(("q", ()), body, ())] * 300, [(("q", ()), body, unlike)] * 300, [mixed], [mixed] * 300,
                          [(("p", ("Z",)), body, unlike)] * 3, [(("q", ()), body[:2], ()), cubed]]:
                for many in (51, 59):
                    self.assert_refused(TooMuch, singles(many), rules, 5)
            for many in (2, 7, 17):
                self.assert_refused(TooMuch, alike(many), [(("p", ()), (("p", ()),) * 3, ())] * 300, 5)

    def test_whys_that_grow_behind_later_rounds(self):
        # One name cubed: 1, 2, 5, 14, 41 products, then 122.
        cubed = (("p", ()), (("p", ()),) * 3, ())
        with within(60):
            told = why_run([("a", "p", ())], [cubed], 4)
            self.assertEqual([len(behind[0][2]) for behind in told], [1, 2, 5, 14, 41])
            self.assertEqual(told[4][0][2][-1], (("a",) * 81, 1))
            self.assert_refused(TooMuch, [("a", "p", ())], [cubed], 5)
            self.assert_refused(TooMuch, [("a", "p", ()), ("b", "p", ())], [cubed], 5)

    def test_a_row_too_many_behind_whys_that_are_long_to_reckon(self):
        # What is free of facts has one product, however many ways lead there; rows come late, and too many.
        free = [(("p", (number,)), (), ()) for number in range(40)]
        heavy = (("q", ()), (("p", ("X",)), ("p", ("Y",)), ("p", ("Z",))), ())
        burst = (("r", ("X", "Y")), (("q", ()), ("p", ("X",)), ("p", ("Y",))), ())
        with within(60):
            self.assert_refused(TooMuch, [], free + [heavy] * 200 + [burst], 3)
            told = why_run([], free + [heavy] * 200, 3)
            self.assertEqual(why_of(told, "q", ()), [((), 200 * 40 ** 3)])


def drawn_worths(chance, by, names):
    """Worths for the names, drawn by chance."""
    if isinstance(by, Bests):
        return {name: sorted(chance.choices(range(-9, 10), k=chance.randrange(by.most + 1))) for name in names}
    if isinstance(by, Hands):
        accords = [[], [()], [("x",)], [("y",)], [("x", "y")], [("u",), ("x",)], [("u", "v"), ("w",)]]
        return {name: chance.choice(accords) for name in names}
    kinds = {Counts: [0, 1, 2, 3, 10, MUCH], Costs: [None, -MUCH, -3, 0, 1, 2, 7, MUCH],
             Trusts: list(range(101)), Truths: [True, False]}
    return {name: chance.choice(kinds[by.__class__]) for name in names}


class ManyTest(WhyRunTestCase):
    def test_runs_of_all_sorts(self):
        refused = 0
        longest = 0
        for facts, rules, rounds, expected in some_runs(23, 1000):
            if expected is None:
                refused += 1
                self.assert_refused(TooMuch, facts, rules, rounds)
            else:
                self.assert_why_run(facts, rules, rounds, expected)
                longest = max([longest] + [len(why) for table, row, why in expected[-1]])
        self.assertGreater(refused, 20)
        self.assertLess(refused, 300)
        self.assertGreater(longest, 20)

    def test_the_whys_reckoned_are_the_worths(self):
        chance = random.Random(3)
        reckonings = [Counts(), Costs(), Bests(), Bests(1), Bests(9), Trusts(), Truths(), Hands()]
        for facts, rules, rounds, expected in some_runs(15, 500):
            if expected is None:
                continue
            told = why_run(facts, rules, rounds)
            for by in reckonings:
                worths = drawn_worths(chance, by, [name for name, table, row in facts])
                reckoned_whys = [[(table, row, reckoned(why, by, worths)) for table, row, why in behind]
                                 for behind in told]
                self.assertEqual(reckoned_whys, run(facts, rules, rounds, by, worths))

    def test_the_run_without_some_facts(self):
        chance = random.Random(9)
        went = 0
        for facts, rules, rounds, expected in some_runs(9, 600):
            if expected is None:
                continue
            whole = why_run(facts, rules, rounds)
            gone = [name for name, table, row in facts if chance.randrange(3) == 0]
            parted = [[(table, row, without(why, gone)) for table, row, why in behind] for behind in whole]
            left = [[told_row for told_row in behind if told_row[2] != []] for behind in parted]
            self.assertEqual(why_run([fact for fact in facts if fact[0] not in gone], rules, rounds), left)
            went += left != whole
        self.assertGreater(went, 50)

    def test_the_products_are_those_of_the_trees(self):
        for facts, rules, rounds, expected in some_runs(28, 600):
            if expected is None or sum([ways_of(why) for table, row, why in expected[-1]]) > 2000:
                continue
            trees = naive_trees(facts, rules, rounds)
            self.assertEqual({(table, row): why for table, row, why in why_run(facts, rules, rounds)[-1]},
                             {pair: gathered([(leaves(tree), 1) for tree in found]) for pair, found in trees.items()})


if __name__ == "__main__":
    unittest.main()
