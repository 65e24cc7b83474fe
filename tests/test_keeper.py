import copy
import itertools
import random
import unittest

from helpers import ODD_THINGS, SIXTY_FIGURES, alike, kept_in, singles, spoil, within
from naive import naive_deed, naive_whys, naive_whys_or_none, some_runs
from whyrows.errors import NoFact, NoName, NoRounds, NoRule, TooMuch
from whyrows.keeper import Keeper
from whyrows.parts import without
from whyrows.sets import least, stoppers
from whyrows.whyruns import why_run
from whyrows.whys import is_why

MUCH = SIXTY_FIGURES
ONE = [((), 1)]
STEP = (("way", ("X", "Y")), (("edge", ("X", "Y")),), ())
LONGER = (("way", ("X", "Z")), (("edge", ("X", "Y")), ("way", ("Y", "Z"))), ())
TWICE = (("both", ("X",)), (("p", ("X",)), ("p", ("X",))), ())
FREE = (("p", (1,)), (), ())
COPY = (("q", ("X",)), (("p", ("X",)),), ())
COPIES = [(("q" + str(number + 1), ("X",)), (("q" + str(number), ("X",)),), ()) for number in range(5)]
FACTS = [("a", "edge", (1, 2)), ("b", "edge", (2, 3)), ("c", "edge", (3, 1)), ("d", "edge", (1, 2)), ("e", "mark", ())]
THREE_FREE = (("p", ("X",)), ("p", ("Y",)), ("p", ("Z",)))
NO_FACTS = [None, 1, "a", ("a", "t"), ["f", "t", (1,)], ("f", "t", [1]), ("F", "t", (1,)), ("f", "t", ("X",)),
            ("f", "t", (True,)), ("f", "t", (1, 2, 3, 4, 5)), ("f", "", ()), ("f", "t", (), ())] + ODD_THINGS


def just(*names):
    """The why of one product, in one way."""
    return [(tuple(sorted(names)), 1)]


def either(*names):
    """The why of several names, each enough by itself."""
    return [((name,), 1) for name in sorted(names)]


def all_told(keeper):
    """All that a keeper tells."""
    told = keeper.told()
    whys = [keeper.why(table, row) for table, row, why in told[-1]]
    return (keeper.facts_told(), told, keeper.trail(), whys, keeper.why("none", ()))


def place_in(facts, name):
    return [fact[1:] for fact in facts if fact[0] == name]


def deed_done(facts, deed, thing):
    """The facts behind a deed, and its places."""
    name = thing if deed == "drop" else thing[0]
    left = [fact for fact in facts if fact[0] != name]
    if deed == "drop":
        return left, place_in(facts, name)
    return sorted(left + [thing]), place_in(facts, name) + [thing[1:]]


class KeeperTestCase(unittest.TestCase):
    def assert_keeps(self, keeper, facts, rules, rounds):
        """What a keeper tells is a run of whys over these facts."""
        expected = naive_whys(facts, rules, rounds)
        self.assertEqual(keeper.facts_told(), sorted(facts))
        self.assertEqual(keeper.told(), expected)
        self.assertEqual(why_run(keeper.facts_told(), rules, rounds), expected)
        for table, row, why in expected[-1]:
            self.assertEqual(keeper.why(table, row), why)
            self.assertTrue(is_why(why))
        return expected

    def assert_deed(self, keeper, rules, deed, thing, changed=None, trail=None):
        """A deed that is taken, held against the plainest words of points 33 and 34."""
        with self.subTest(deed=deed, thing=thing, rules=repr(rules)[:200]):
            facts, old_run = keeper.facts_told(), keeper.told()
            later, places = deed_done(facts, deed, thing)
            told = getattr(keeper, deed)(thing)
            new_run = self.assert_keeps(keeper, later, rules, len(old_run) - 1)
            due, trail_due = naive_deed(old_run, new_run, rules, places)
            self.assertIs(told.__class__, list)
            self.assertEqual(told, due)
            self.assertEqual(keeper.trail(), trail_due)
            if changed is not None:
                self.assertEqual(told, changed)
            if trail is not None:
                self.assertEqual(keeper.trail(), trail)

    def assert_refused(self, error, keeper, deed, thing):
        with self.subTest(error=error.__name__, deed=deed, thing=repr(thing)[:200]):
            before = copy.deepcopy((all_told(keeper), thing))
            with self.assertRaises(error) as caught:
                getattr(keeper, deed)(thing)
            self.assertIs(caught.exception.__class__, error)
            self.assertEqual((all_told(keeper), thing), before)


class MadeTest(KeeperTestCase):
    def assert_not_made(self, error, facts, rules, rounds):
        with self.subTest(error=error.__name__, facts=repr(facts)[:200], rules=repr(rules)[:200], rounds=rounds):
            before = copy.deepcopy((facts, rules))
            with self.assertRaises(error) as caught:
                Keeper(facts, rules, rounds)
            self.assertIs(caught.exception.__class__, error)
            self.assertEqual((facts, rules), before)

    def test_what_a_new_keeper_tells(self):
        for rounds in range(6):
            for facts, rules in [([], []), ([], [STEP, FREE]), (FACTS, []), (FACTS, [STEP, LONGER, FREE]),
                                 (FACTS[::-1], [TWICE, FREE])]:
                keeper = Keeper(facts, rules, rounds)
                self.assert_keeps(keeper, facts, rules, rounds)
                self.assertEqual(keeper.trail(), [])

    def test_facts_in_the_order_of_their_names(self):
        names = ["a", "a0", "a10", "a9", "aa", "b", "if", "z"]
        facts = [(name, "p", (place,)) for place, name in enumerate(names)]
        for seed in range(10):
            mixed = list(facts)
            random.Random(seed).shuffle(mixed)
            keeper = Keeper(mixed[:4], [], 1)
            for fact in mixed[4:]:
                keeper.put(fact)
            self.assertEqual(keeper.facts_told(), facts)
            keeper.move(("a10", "q", ()))
            self.assertEqual([fact[0] for fact in keeper.facts_told()], names)
            keeper.drop("a9")
            self.assertEqual([fact[0] for fact in keeper.facts_told()], [name for name in names if name != "a9"])

    def test_the_why_of_a_pair(self):
        keeper = Keeper(FACTS, [STEP, LONGER], 2)
        self.assertEqual(keeper.why("edge", (1, 2)), either("a", "d"))
        self.assertEqual(keeper.why("way", (1, 3)), just("a", "b") + just("b", "d"))
        for table, row in [("way", (1, 1)), ("way", ()), ("none", (1, 2)), ("edge", (2, 1)), ("edge", (1, 2, 3)),
                           ("mark", (1,)), ("edge", (MUCH, 2)), ("edg", (1, 2))]:
            self.assertEqual(keeper.why(table, row), [])
        # Behind the last round, not behind an earlier one.
        self.assertEqual(Keeper(FACTS, [STEP, LONGER], 1).why("way", (1, 3)), [])
        self.assertEqual(Keeper(FACTS, [STEP, LONGER], 0).why("way", (1, 2)), [])
        self.assertEqual(Keeper([], [FREE], 1).why("p", (1,)), ONE)

    def test_no_fact_no_name_no_rule_no_rounds(self):
        for odd in NO_FACTS:
            self.assert_not_made(NoFact, FACTS + [odd], [STEP], 1)
            self.assert_not_made(NoFact, [odd] + FACTS, [], 0)
        self.assert_not_made(NoName, FACTS + [("a", "t", (1,))], [STEP], 1)
        self.assert_not_made(NoName, FACTS + FACTS[:1], [], 0)
        for odd in [None, 1, "a", STEP[:2], list(STEP), (("p", ("X",)), (), ())] + ODD_THINGS:
            self.assert_not_made(NoRule, FACTS, [STEP, odd], 1)
        for odd in [-1, 6, MUCH, True, False, "1", None, [], (1,)] + ODD_THINGS:
            self.assert_not_made(NoRounds, FACTS, [STEP], odd)

    def test_too_much(self):
        for rounds in range(6):
            self.assertEqual(len(Keeper(singles(60), [], rounds).told()[-1]), 60)
            self.assert_not_made(TooMuch, singles(61), [], rounds)
            self.assertEqual(len(Keeper(alike(50), [], rounds).why("p", ())), 50)
            self.assert_not_made(TooMuch, alike(51), [], rounds)
        self.assert_not_made(TooMuch, singles(31), [COPY], 1)
        self.assert_keeps(Keeper(singles(31), [COPY], 0), singles(31), [COPY], 0)
        with within(60):
            self.assert_not_made(TooMuch, singles(59), [(("t", ("X", "Y", "Z")), THREE_FREE, ())] * 300, 5)
            self.assert_not_made(TooMuch, alike(50), [(("p", ()), (("p", ()),) * 3, ())] * 300, 5)

    def test_several_faults_at_once(self):
        for many in ([("m" + str(n), "m", (n,)) for n in range(61)], alike(51, "m", "m")):
            for no_fact, no_name, no_rule, no_rounds in itertools.product([False, True], repeat=4):
                facts = many + ([many[3]] if no_name else []) + ([("m", "m")] if no_fact else [])
                rules = [STEP] + ([(("p", ("X",)), (), ())] if no_rule else [])
                expected = TooMuch
                for fault, error in [(no_rounds, NoRounds), (no_rule, NoRule), (no_fact, NoFact), (no_name, NoName)]:
                    expected = error if fault else expected
                self.assert_not_made(expected, facts, rules, 9 if no_rounds else 2)


class DeedsTest(KeeperTestCase):
    def test_put(self):
        keeper = Keeper([], [COPY], 2)
        self.assert_deed(keeper, [COPY], "put", ("a", "p", (1,)), [("p", (1,)), ("q", (1,))])
        # Another fact of the row: it has another why.
        self.assert_deed(keeper, [COPY], "put", ("b", "p", (1,)), [("p", (1,)), ("q", (1,))])
        self.assert_deed(keeper, [COPY], "put", ("c", "p", (2,)), [("p", (2,)), ("q", (2,))])
        self.assert_deed(keeper, [COPY], "put", ("d", "q", (2,)), [("q", (2,))])
        self.assert_deed(keeper, [COPY], "put", ("e", "r", ()), [("r", ())])
        self.assertEqual(keeper.why("q", (1,)), either("a", "b"))
        self.assertEqual(keeper.why("q", (2,)), either("c", "d"))

    def test_drop(self):
        facts = [("a", "p", (1,)), ("b", "p", (1,)), ("c", "p", (2,)), ("d", "q", (2,)), ("e", "r", ())]
        keeper = Keeper(facts, [COPY], 2)
        # It stays by another fact, stays by a rule, stays by a fact where the rule gives it no more, goes.
        self.assert_deed(keeper, [COPY], "drop", "a", [("p", (1,)), ("q", (1,))])
        self.assertEqual(keeper.why("p", (1,)), just("b"))
        self.assert_deed(keeper, [COPY], "drop", "d", [("q", (2,))])
        self.assertEqual(keeper.why("q", (2,)), just("c"))
        keeper.put(("d", "q", (2,)))
        self.assert_deed(keeper, [COPY], "drop", "c", [("p", (2,)), ("q", (2,))])
        self.assertEqual(keeper.why("q", (2,)), just("d"))
        self.assertEqual(keeper.why("p", (2,)), [])
        self.assert_deed(keeper, [COPY], "drop", "b", [("p", (1,)), ("q", (1,))])
        self.assert_deed(keeper, [COPY], "drop", "e", [("r", ())])
        self.assert_deed(keeper, [COPY], "drop", "d", [("q", (2,))])
        self.assertEqual((keeper.facts_told(), keeper.told()), ([], [[], [], []]))

    def test_a_row_that_a_rule_has_without_facts(self):
        keeper = Keeper([("a", "p", (1,))], [FREE, COPY], 3)
        self.assert_deed(keeper, [FREE, COPY], "drop", "a", [("p", (1,)), ("q", (1,))])
        self.assertEqual(keeper.why("q", (1,)), ONE)
        self.assert_deed(keeper, [FREE, COPY], "put", ("b", "p", (1,)), [("p", (1,)), ("q", (1,))])

    def test_move(self):
        rules = [COPY, TWICE]
        keeper = Keeper([("a", "p", (1,)), ("b", "p", (2,)), ("c", "p", (1,))], rules, 2)
        # To another row, to another table, to a row that stands, to where it came from.
        self.assert_deed(keeper, rules, "move", ("a", "p", (3,)), [
            ("both", (1,)), ("both", (3,)), ("p", (1,)), ("p", (3,)), ("q", (1,)), ("q", (3,))])
        self.assert_deed(keeper, rules, "move", ("a", "r", (3,)), [
            ("both", (3,)), ("p", (3,)), ("q", (3,)), ("r", (3,))])
        self.assert_deed(keeper, rules, "move", ("a", "q", (2,)), [("q", (2,)), ("r", (3,))])
        # Now q has by its rule what it had by the fact.
        self.assert_deed(keeper, rules, "move", ("a", "p", (2,)), [("both", (2,)), ("p", (2,))])
        self.assert_deed(keeper, rules, "move", ("a", "p", (1,)), [
            ("both", (1,)), ("both", (2,)), ("p", (1,)), ("p", (2,)), ("q", (1,)), ("q", (2,))])
        self.assertEqual(keeper.why("both", (1,)), [(("a", "a"), 1), (("a", "c"), 2), (("c", "c"), 1)])

    def test_move_to_the_very_same_place(self):
        for rounds in range(4):
            keeper = Keeper(FACTS, [STEP, LONGER], rounds)
            for fact in FACTS:
                trail = [(number, fact[1], fact[2]) for number in range(rounds + 1)]
                self.assert_deed(keeper, [STEP, LONGER], "move", fact, [], trail)

    def test_move_to_where_the_rule_already_leads(self):
        # From the row to what comes of it: the row q stays, with another why of it behind each round or the same.
        keeper = Keeper([("a", "p", (1,))], [COPY], 2)
        self.assert_deed(keeper, [COPY], "move", ("a", "q", (1,)), [("p", (1,))])
        self.assertEqual(keeper.why("q", (1,)), just("a"))

    def test_in_order(self):
        rows = [(), (-MUCH,), (9,), (9, 0), (9, "a"), (10,), (MUCH,), ("a",), ("a", 1), ("a10",), ("a9",)]
        rules = [((table, row), (("go", ()),), ()) for table in ("b10", "a", "b9", "a1") for row in rows[::-1]]
        keeper = Keeper([], rules, 1)
        pairs = [(table, row) for table in ("a", "a1", "b10", "b9") for row in rows] + [("go", ())]
        trail = [(0, "go", ())] + [(1, table, row) for table, row in pairs]
        self.assert_deed(keeper, rules, "put", ("z", "go", ()), pairs, trail)
        self.assert_deed(keeper, rules, "drop", "z", pairs, trail)

    def test_a_name_may_come_again(self):
        keeper = Keeper([("a", "p", (1,))], [COPY], 1)
        self.assert_deed(keeper, [COPY], "drop", "a")
        self.assert_deed(keeper, [COPY], "put", ("a", "p", (2,)))
        self.assert_deed(keeper, [COPY], "drop", "a")
        self.assert_deed(keeper, [COPY], "put", ("a", "p", (1,)))

    def test_no_rounds(self):
        keeper = Keeper([("a", "p", (1,))], [COPY, FREE], 0)
        self.assert_deed(keeper, [COPY, FREE], "put", ("b", "p", (1,)), [("p", (1,))], [(0, "p", (1,))])
        self.assert_deed(keeper, [COPY, FREE], "move", ("b", "q", ()), [("p", (1,)), ("q", ())],
                         [(0, "p", (1,)), (0, "q", ())])
        self.assert_deed(keeper, [COPY, FREE], "drop", "a", [("p", (1,))], [(0, "p", (1,))])
        self.assertEqual(keeper.told(), [[("q", (), just("b"))]])


class TrailTest(KeeperTestCase):
    def test_ahead_of_the_first_deed(self):
        for rounds in range(6):
            keeper = Keeper(FACTS, [STEP, LONGER], rounds)
            self.assertEqual(keeper.trail(), [])
            self.assert_refused(NoName, keeper, "drop", "z")
            self.assertEqual(keeper.trail(), [])

    def test_behind_a_put_and_a_drop(self):
        trail = [(0, "p", (1,)), (1, "p", (1,)), (1, "q", (1,)), (2, "p", (1,)), (2, "q", (1,))]
        keeper = Keeper([("a", "p", (2,))], [COPY], 2)
        self.assert_deed(keeper, [COPY], "put", ("b", "p", (1,)), [("p", (1,)), ("q", (1,))], trail)
        self.assert_deed(keeper, [COPY], "put", ("c", "p", (1,)), [("p", (1,)), ("q", (1,))], trail)
        self.assert_deed(keeper, [COPY], "drop", "b", [("p", (1,)), ("q", (1,))], trail)
        self.assert_deed(keeper, [COPY], "drop", "c", [("p", (1,)), ("q", (1,))], trail)

    def test_behind_a_move(self):
        keeper = Keeper([("a", "p", (2,))], [COPY], 1)
        pairs = [("p", (1,)), ("p", (2,)), ("q", (1,)), ("q", (2,))]
        self.assert_deed(keeper, [COPY], "move", ("a", "p", (1,)), pairs,
                         [(0, "p", (1,)), (0, "p", (2,))] + [(1, table, row) for table, row in pairs])
        # The places of a move are told in order, whichever is the old one.
        self.assert_deed(keeper, [COPY], "move", ("a", "p", (2,)), pairs,
                         [(0, "p", (1,)), (0, "p", (2,))] + [(1, table, row) for table, row in pairs])

    def test_round_by_round(self):
        keeper = Keeper([], COPIES, 5)
        trail = [(number, "q" + str(place), (1,)) for number in range(6) for place in range(number + 1)]
        pairs = [("q" + str(place), (1,)) for place in range(6)]
        self.assert_deed(keeper, COPIES, "put", ("a", "q0", (1,)), pairs, trail)
        self.assert_deed(keeper, COPIES, "drop", "a", pairs, trail)
        # From the third on.
        self.assert_deed(keeper, COPIES, "put", ("a", "q3", (1,)), pairs[3:], [(0, "q3", (1,)), (1, "q3", (1,)),
                         (1, "q4", (1,))] + [(n, "q" + str(p), (1,)) for n in range(2, 6) for p in (3, 4, 5)])

    def test_what_has_nothing_to_do_with_it_is_not_in_it(self):
        facts = [("a", "edge", (1, 2)), ("b", "edge", (2, 3)), ("c", "edge", (7, 8)), ("e", "mark", ())]
        keeper = Keeper(facts, [STEP, LONGER], 2)
        self.assert_deed(keeper, [STEP, LONGER], "put", ("d", "edge", (8, 9)),
                         [("edge", (8, 9)), ("way", (7, 9)), ("way", (8, 9))],
                         [(0, "edge", (8, 9)), (1, "edge", (8, 9)), (1, "way", (8, 9)),
                          (2, "edge", (8, 9)), (2, "way", (7, 9)), (2, "way", (8, 9))])
        self.assert_deed(keeper, [STEP, LONGER], "put", ("f", "none", (1,)), [("none", (1,))],
                         [(0, "none", (1,)), (1, "none", (1,)), (2, "none", (1,))])

    def test_a_pair_whose_why_stayed_leads_to_nothing_further(self):
        # What q gives is what the fact gave: behind round 1 the why of r(1) is reckoned again, and stays.
        rules = [(("r", ("X",)), (("p", ("X",)),), ()), (("r", ("X",)), (("q", ("X",)),), ()),
                 (("s", ("X",)), (("r", ("X",)),), ())]
        keeper = Keeper([("a", "p", (1,))], rules, 3)
        trail = [(0, "p", (1,)), (0, "q", (1,))]
        for number in range(1, 4):
            trail += [(number, "p", (1,)), (number, "q", (1,)), (number, "r", (1,))]
        self.assert_deed(keeper, rules, "move", ("a", "q", (1,)), [("p", (1,)), ("q", (1,))], trail)
        self.assertEqual(keeper.why("s", (1,)), just("a"))

    def test_a_place_whose_why_stayed_leads_to_nothing_further(self):
        keeper = Keeper([("a", "p", (1,))], [COPY], 2)
        self.assert_deed(keeper, [COPY], "move", ("a", "p", (1,)), [], [(0, "p", (1,)), (1, "p", (1,)), (2, "p", (1,))])

    def test_a_why_that_changed_behind_an_earlier_round_alone(self):
        # The row comes earlier by the fact, and has no other why behind the last round than it had.
        rules = [(("q", ()), (("p", ()),), ()), (("r", ()), (("q", ()),), ())]
        keeper = Keeper([("a", "p", ())], rules, 3)
        self.assert_deed(keeper, rules, "move", ("a", "q", ()), [("p", ())], [
            (0, "p", ()), (0, "q", ()), (1, "p", ()), (1, "q", ()), (1, "r", ()), (2, "p", ()), (2, "q", ()),
            (3, "p", ()), (3, "q", ())])

    def test_instances_that_are_gone_and_instances_that_came(self):
        pairs = (("t", ("X", "Y")), (("p", ("X",)), ("p", ("Y",))), (("<", "X", "Y"),))
        keeper = Keeper([("a", "p", (1,)), ("b", "p", (2,))], [pairs], 1)
        trail = [(0, "p", (3,)), (1, "p", (3,)), (1, "t", (1, 3)), (1, "t", (2, 3))]
        self.assert_deed(keeper, [pairs], "put", ("c", "p", (3,)), [pair[1:] for pair in trail[1:]], trail)
        self.assert_deed(keeper, [pairs], "drop", "c", [pair[1:] for pair in trail[1:]], trail)
        # Gone by the old row, come by the new one; what stays is not in it.
        self.assert_deed(keeper, [pairs], "put", ("c", "p", (3,)))
        self.assert_deed(keeper, [pairs], "move", ("c", "p", (0,)), [
            ("p", (0,)), ("p", (3,)), ("t", (0, 1)), ("t", (0, 2)), ("t", (1, 3)), ("t", (2, 3))])

    def test_an_instance_that_uses_it_at_the_last_place_alone(self):
        rule = (("s", ("X",)), (("p", ("X",)), ("q", ()), ("r", ("X",))), (("!=", "X", 5),))
        facts = [("a", "p", (1,)), ("b", "q", ()), ("c", "r", (1,)), ("d", "p", (5,)), ("e", "r", (5,))]
        for fact in facts:
            keeper = Keeper([other for other in facts if other != fact], [rule, rule], 2)
            self.assert_deed(keeper, [rule, rule], "put", fact)
            self.assertEqual((1, "s", (1,)) in keeper.trail(), fact[2] != (5,))
            self.assertNotIn((1, "s", (5,)), keeper.trail())
            self.assert_deed(keeper, [rule, rule], "drop", fact[0])

    def test_a_row_that_is_used_twice(self):
        keeper = Keeper([("a", "p", (1,))], [TWICE], 2)
        trail = [(0, "p", (1,)), (1, "both", (1,)), (1, "p", (1,)), (2, "both", (1,)), (2, "p", (1,))]
        self.assert_deed(keeper, [TWICE], "put", ("b", "p", (1,)), [("both", (1,)), ("p", (1,))], trail)
        self.assert_deed(keeper, [TWICE], "drop", "a", [("both", (1,)), ("p", (1,))], trail)

    def test_a_rule_with_an_empty_body_is_not_reckoned_again(self):
        keeper = Keeper([], [FREE, (("r", ()), (), ())], 2)
        self.assert_deed(keeper, [FREE, (("r", ()), (), ())], "put", ("a", "q", ()), [("q", ())],
                         [(0, "q", ()), (1, "q", ()), (2, "q", ())])

    def test_a_rule_that_goes_round(self):
        rounded = [("a", "edge", (1, 2)), ("b", "edge", (2, 1))]
        for rounds in range(6):
            keeper = Keeper(rounded, [STEP, LONGER], rounds)
            self.assert_deed(keeper, [STEP, LONGER], "drop", "b")
            self.assert_deed(keeper, [STEP, LONGER], "put", ("c", "edge", (2, 2)))
            self.assert_deed(keeper, [STEP, LONGER], "move", ("a", "edge", (2, 1)))
            self.assert_deed(keeper, [STEP, LONGER], "put", ("b", "way", (1, 1)))

    def test_a_refused_deed_leaves_the_last_one(self):
        keeper = Keeper(singles(59), [], 1)
        keeper.put(("z", "p", (59,)))
        trail = [(0, "p", (59,)), (1, "p", (59,))]
        for deed, thing, error in [("put", None, NoFact), ("put", ("z", "q", ()), NoName), ("drop", "y", NoName),
                                   ("move", ("y", "q", ()), NoName), ("put", ("y", "q", ()), TooMuch)]:
            self.assert_refused(error, keeper, deed, thing)
            self.assertEqual(keeper.trail(), trail)


class RefusedTest(KeeperTestCase):
    def test_what_is_no_fact(self):
        for keeper in (Keeper([], [], 0), Keeper(FACTS, [STEP, LONGER], 2), Keeper(singles(60), [], 1)):
            for odd in NO_FACTS:
                self.assert_refused(NoFact, keeper, "put", odd)
                self.assert_refused(NoFact, keeper, "move", odd)

    def test_a_name_that_stands_and_one_that_does_not(self):
        keeper = Keeper(FACTS, [STEP, LONGER], 2)
        for fact in FACTS:
            self.assert_refused(NoName, keeper, "put", fact)
            self.assert_refused(NoName, keeper, "put", (fact[0], "new", (7,)))
        for name in ("f", "aa", "edge", "way", "a1"):
            self.assert_refused(NoName, keeper, "drop", name)
            self.assert_refused(NoName, keeper, "move", (name, "edge", (1, 2)))
        keeper.drop("a")
        self.assert_refused(NoName, keeper, "drop", "a")
        self.assert_refused(NoName, keeper, "move", FACTS[0])
        self.assert_refused(NoName, Keeper([], [], 5), "drop", "a")

    def test_a_drop_of_any_text(self):
        for keeper in (Keeper([], [], 0), Keeper(FACTS, [STEP], 1)):
            for name in ["", " ", "A", "a ", " a", "a b", "1", "X", "a" * 13, "a" * 3000, "\n", "\xe9", "None", "()",
                         "a\n", "if"]:
                self.assert_refused(NoName, keeper, "drop", name)

    def test_too_many_rows(self):
        for rounds in range(4):
            keeper = Keeper(singles(60), [], rounds)
            self.assert_refused(TooMuch, keeper, "put", ("z", "p", (60,)))
            self.assert_refused(TooMuch, keeper, "put", ("z", "q", ()))
            # No row more: it is taken. Nor is a move a row more, but where the row stays by another fact.
            self.assert_deed(keeper, [], "put", ("z", "p", (7,)))
            self.assert_deed(keeper, [], "move", ("n3", "q", (60,)))
            self.assert_refused(TooMuch, keeper, "move", ("z", "q", (61,)))
            self.assert_refused(TooMuch, keeper, "move", ("n7", "q", (61,)))
            self.assert_deed(keeper, [], "drop", "n3")
            self.assert_deed(keeper, [], "move", ("n7", "q", (61,)))

    def test_a_row_too_many_behind_a_later_round(self):
        for late in range(1, 6):
            rules = [(("q" + str(number + 1), ()), (("q" + str(number), ()),), ()) for number in range(late)]
            facts = [("n" + str(number), "p", (number,)) for number in range(60 - late)]
            for rounds in range(6):
                keeper = Keeper(facts, rules, rounds)
                if rounds < late:
                    self.assert_deed(keeper, rules, "put", ("z", "q0", ()))
                else:
                    self.assert_refused(TooMuch, keeper, "put", ("z", "q0", ()))
                    self.assert_deed(keeper, rules, "drop", "n7")
                    self.assert_deed(keeper, rules, "put", ("z", "q0", ()))
                    self.assert_refused(TooMuch, keeper, "put", ("n7", "p", (7,)))

    def test_too_many_products(self):
        for rounds in range(4):
            keeper = Keeper(alike(50) + [("y", "q", ())], [], rounds)
            self.assert_refused(TooMuch, keeper, "put", ("z", "p", ()))
            self.assert_refused(TooMuch, keeper, "move", ("y", "p", ()))
            self.assert_deed(keeper, [], "put", ("z", "q", ()))
            self.assert_deed(keeper, [], "move", ("n7", "p", ()), [])
            self.assert_deed(keeper, [], "drop", "n7")
            self.assert_deed(keeper, [], "move", ("y", "p", ()))
            self.assert_refused(TooMuch, keeper, "put", ("n7", "p", ()))

    def test_a_product_too_many_behind_a_later_round(self):
        for late in range(1, 6):
            chain = [(("q" + str(n + 1), ("X",)), (("q" + str(n), ("X",)),), ()) for n in range(late - 1)]
            rules = chain + [(("end", ()), (("q" + str(late - 1), ("X",)),), ())]
            facts = [("n" + str(n), "q0", (n % 10,)) for n in range(50)]
            for rounds in range(6):
                keeper = Keeper(facts, rules, rounds)
                if rounds < late:
                    self.assert_deed(keeper, rules, "put", ("z", "q0", (3,)))
                else:
                    self.assert_refused(TooMuch, keeper, "put", ("z", "q0", (3,)))
                    self.assert_deed(keeper, rules, "move", ("n7", "r", ()))
                    self.assert_deed(keeper, rules, "put", ("z", "q0", (3,)))
                    self.assert_refused(TooMuch, keeper, "move", ("n7", "q0", (3,)))

    def test_more_facts_than_a_list_may_hold(self):
        # Fifty facts of each of sixty rows can be put, one by one.
        keeper = Keeper([], [], 1)
        with within(60):
            for number in range(3000):
                keeper.put(("n" + str(number), "p", (number % 60,)))
            self.assert_refused(TooMuch, keeper, "put", ("z", "p", (7,)))
            self.assert_refused(TooMuch, keeper, "put", ("z", "p", (60,)))
            self.assertEqual(len(keeper.facts_told()), 3000)
            self.assertEqual([len(why) for table, row, why in keeper.told()[-1]], [50] * 60)

    def test_several_faults_at_once(self):
        keeper = Keeper(singles(60), [], 1)
        self.assert_refused(NoFact, keeper, "put", ("n1", "q"))
        self.assert_refused(NoFact, keeper, "put", ("n1", "q", (None,)))
        self.assert_refused(NoFact, keeper, "move", ("z", "q", [1]))
        self.assert_refused(NoName, keeper, "put", ("n1", "q", ()))
        self.assert_refused(NoName, keeper, "move", ("z", "q", ()))
        self.assert_refused(TooMuch, keeper, "put", ("z", "q", ()))

    def test_given_up_without_long_waiting(self):
        burst = (("t", ("X", "Y")), (("go", ()),) + THREE_FREE[:2], ())
        much = (("s", ()), (("go", ()),) + THREE_FREE[:2], ())
        free = [(("p", (number,)), (), ()) for number in range(50)]
        with within(60):
            for facts, rules in [(singles(50), [burst] * 250), (singles(50), [much] * 250), ([], free + [burst] * 250),
                                 (singles(50), [much, burst, LONGER])]:
                keeper = Keeper(facts, rules, 5)
                self.assert_refused(TooMuch, keeper, "put", ("z", "go", ()))
            cubed = (("p", ()), (("p", ()),) * 3, ())
            keeper = Keeper([], [cubed] * 300, 5)
            self.assert_refused(TooMuch, keeper, "put", ("z", "p", ()))
            keeper = Keeper([], [cubed] * 300, 4)
            keeper.put(("z", "p", ()))
            self.assertEqual(len(keeper.why("p", ())), 41)
            self.assert_refused(TooMuch, keeper, "put", ("y", "p", ()))

    def test_very_many_instances(self):
        free = [(("p", (number,)), (), ()) for number in range(58)]
        heavy = (("q", ()), THREE_FREE, ())
        with within(60):
            keeper = Keeper([], free + [heavy] * 200, 5)
            self.assertEqual(keeper.put(("z", "p", (3,))), [("p", (3,)), ("q", ())])
            self.assertEqual(keeper.told(), why_run([("z", "p", (3,))], free + [heavy] * 200, 5))
            self.assertEqual(keeper.drop("z"), [("p", (3,)), ("q", ())])
            self.assertEqual(keeper.why("q", ()), [((), 200 * 58 ** 3)])


class OwnAnswersTest(KeeperTestCase):
    def test_what_is_handed_in_stays(self):
        facts, rules = list(FACTS), [STEP, LONGER]
        keeper = Keeper(facts, rules, 2)
        keeper.put(("f", "edge", (3, 4)))
        keeper.move(("a", "edge", (7, 8)))
        keeper.drop("b")
        self.assertEqual((facts, rules), (FACTS, [STEP, LONGER]))

    def test_a_change_of_what_was_handed_in(self):
        facts, rules = list(FACTS), [STEP, LONGER]
        keeper = Keeper(facts, rules, 2)
        before = copy.deepcopy(all_told(keeper))
        facts.clear()
        rules.append(FREE)
        rules.pop(0)
        self.assertEqual(all_told(keeper), before)
        self.assert_deed(keeper, [STEP, LONGER], "put", ("f", "edge", (3, 4)))
        facts.append(("g", "edge", (9, 9)))
        rules.clear()
        self.assert_deed(keeper, [STEP, LONGER], "move", ("a", "edge", (3, 4)))

    def test_a_change_of_what_was_told(self):
        keeper = Keeper(FACTS, [STEP, LONGER, FREE], 3)
        told = keeper.put(("f", "edge", (3, 4)))
        before = copy.deepcopy(all_told(keeper))
        for thing in [told, keeper.facts_told(), keeper.told(), keeper.trail(), keeper.why("way", (1, 3)),
                      keeper.why("none", ())]:
            spoil(thing)
            self.assertEqual(all_told(keeper), before)
        # A why within what was told, of whichever round.
        for number in range(4):
            for table, row, why in keeper.told()[number]:
                why.append("spoilt")
                why.reverse()
        self.assertEqual(all_told(keeper), before)
        for deed, thing in [("drop", "f"), ("put", ("f", "edge", (3, 4))), ("move", ("b", "edge", (2, 4)))]:
            self.assert_deed(keeper, [STEP, LONGER, FREE], deed, thing)
            spoil([keeper.told(), keeper.facts_told(), keeper.trail(), keeper.why("way", (1, 2))])

    def test_what_was_told_stays(self):
        keeper = Keeper(FACTS, [STEP, LONGER], 3)
        told = [keeper.put(("f", "edge", (3, 4))), all_told(keeper)]
        before = copy.deepcopy(told)
        for deed, thing in [("drop", "a"), ("move", ("f", "edge", (1, 2))), ("put", ("a", "way", (1, 2)))]:
            getattr(keeper, deed)(thing)
            self.assertEqual(told, before)

    def test_no_list_at_two_places(self):
        keeper = Keeper(FACTS, [STEP, LONGER, FREE], 5)
        keeper.put(("f", "edge", (3, 4)))
        for tell in (keeper.told, keeper.facts_told, keeper.trail, lambda: keeper.why("way", (1, 2))):
            one, other = tell(), tell()
            places = [id(kept) for kept in kept_in(one) + kept_in(other)]
            self.assertEqual(len(set(places)), len(places))
        for behind in keeper.told():
            self.assertIs(behind.__class__, list)
            for told_row in behind:
                self.assertIs(told_row.__class__, tuple)

    def test_two_keepers_side_by_side(self):
        facts, rules = list(FACTS), [STEP, LONGER]
        one, other = Keeper(facts, rules, 3), Keeper(facts, rules, 3)
        before = copy.deepcopy(all_told(other))
        for deed, thing in [("put", ("f", "edge", (3, 4))), ("drop", "a"), ("move", ("b", "edge", (1, 2)))]:
            self.assert_deed(one, rules, deed, thing)
            self.assertEqual(all_told(other), before)
        before = copy.deepcopy(all_told(one))
        self.assert_deed(other, rules, "drop", "b")
        self.assert_deed(other, rules, "put", ("f", "mark", ()))
        self.assertEqual(all_told(one), before)


def drawn_deed(chance, facts, places):
    """A deed and its thing, drawn by chance; one that is refused by its name, now and then."""
    names = [fact[0] for fact in facts]
    deed = chance.choice(["put", "put", "drop", "move", "move"])
    name = chance.choice(names + list("abcdefgh"))
    table, row = chance.choice(places)
    return deed, (name if deed == "drop" else (name, table, row))


class ManyTest(KeeperTestCase):
    def test_drawn_rows_of_deeds(self):
        chance = random.Random(34)
        wide = [(table, row) for table in "pqrs" for row in [(1,), (2,), (3,), (), (1, 2), ("a",), ("b", 1)]]
        close = [(table, (value,)) for table in "pq" for value in (1, 2, 3)]
        taken, unnamed, too_much, unchanged = 0, 0, 0, 0
        for facts, rules, rounds, expected in some_runs(32, 400):
            if expected is None:
                continue
            keeper = Keeper(facts, rules, rounds)
            for number in range(8):
                deed, thing = drawn_deed(chance, keeper.facts_told(), chance.choice([wide, close, close]))
                name = thing if deed == "drop" else thing[0]
                if (place_in(keeper.facts_told(), name) != []) == (deed == "put"):
                    unnamed += 1
                    self.assert_refused(NoName, keeper, deed, thing)
                elif naive_whys_or_none(deed_done(keeper.facts_told(), deed, thing)[0], rules, rounds) is None:
                    too_much += 1
                    self.assert_refused(TooMuch, keeper, deed, thing)
                else:
                    taken += 1
                    before = keeper.told()[-1]
                    self.assert_deed(keeper, rules, deed, thing)
                    unchanged += keeper.told()[-1] == before
        self.assertGreater(taken, 800)
        self.assertGreater(unnamed, 200)
        self.assertGreater(too_much, 20)
        self.assertGreater(unchanged, 5)

    def test_deeds_taken_back(self):
        chance = random.Random(35)
        for facts, rules, rounds, expected in some_runs(33, 150):
            if expected is None or facts == []:
                continue
            keeper = Keeper(facts, rules, rounds)
            fact = chance.choice(facts)
            changed = keeper.drop(fact[0])
            trail = keeper.trail()
            # The way back goes through the same pairs, and changes the same ones.
            self.assertEqual(keeper.put(fact), changed)
            self.assertEqual(keeper.trail(), trail)
            self.assertEqual(keeper.told(), expected)

    def test_what_comes_of_dropping_a_stopper(self):
        seen = 0
        for facts, rules, rounds, expected in some_runs(12, 200):
            if expected is None:
                continue
            for table, row, why in expected[-1]:
                for stopper in stoppers(least(why)):
                    keeper = Keeper(facts, rules, rounds)
                    for place, name in enumerate(stopper):
                        # Ahead of its last fact the row still stands: no word of a stopper can be left out.
                        self.assertNotEqual(keeper.why(table, row), [])
                        keeper.drop(name)
                        self.assertEqual(keeper.why(table, row), without(why, stopper[:place + 1]))
                    self.assertEqual(keeper.why(table, row), [])
                    self.assertNotIn((table, row), [told_row[:2] for told_row in keeper.told()[-1]])
                    seen += len(stopper) > 1
        self.assertGreater(seen, 100)


if __name__ == "__main__":
    unittest.main()
