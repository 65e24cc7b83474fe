import copy
import itertools
import random
import unittest

from helpers import FOUR_HUNDRED_FIGURES, SIXTY_FIGURES, HandedOver
from whyrows.errors import NoWorth
from whyrows.parts import filled, names_of
from whyrows.reckonings import Bests, Costs, Counts, Hands, Trusts, Truths
from whyrows.whys import gathered, of_fact, plus, times
from whyrows.worths import reckoned

NAMES = ["a", "b", "c", "d"]
UNIT = [((), 1)]
SOME_WHYS = [
    [], UNIT, [((), 3)], of_fact("a"), of_fact("b"), [(("a",), 2)], [(("a",), 1), (("b",), 1)], [(("a", "b"), 1)],
    [(("a", "a"), 2), (("a", "b"), 1), (("c",), 7)], [((), 1), (("a", "b", "b"), 4), (("d",), SIXTY_FIGURES)],
]
# Each reckoning with some dicts of worths for the four names.
RECKONINGS = [
    (Counts(), [dict.fromkeys(NAMES, 1), {"a": 2, "b": 3, "c": 0, "d": SIXTY_FIGURES}]),
    (Costs(), [{"a": 1, "b": 10, "c": 100, "d": 1000}, {"a": -5, "b": None, "c": 3, "d": 0},
               dict.fromkeys(NAMES)]),
    (Bests(1), [{"a": [1], "b": [2], "c": [], "d": [-4]}]),
    (Bests(), [{"a": [1], "b": [2], "c": [4], "d": [8]}, {"a": [-1, 0, 0], "b": [3, 3], "c": [], "d": [0, 5, 5]}]),
    (Bests(9), [{"a": [1, 2, 2], "b": [0], "c": [-3, -3], "d": list(range(9))}]),
    (Trusts(0), [dict.fromkeys(NAMES, 0)]),
    (Trusts(), [{"a": 90, "b": 50, "c": 70, "d": 100}, {"a": 0, "b": 1, "c": 100, "d": 99}]),
    (Trusts(SIXTY_FIGURES), [{"a": SIXTY_FIGURES, "b": 5, "c": SIXTY_FIGURES - 1, "d": 0}]),
    (Truths(), [dict.fromkeys(NAMES, True), dict.fromkeys(NAMES, False),
                {"a": True, "b": False, "c": False, "d": True}]),
    (Hands(), [{"a": [("x",)], "b": [("y",)], "c": [("z",)], "d": [("w",)]},
               {"a": [("u",), ("x", "y")], "b": [("v", "z"), ("x",)], "c": [()], "d": []},
               {"a": [("x", "y"), ("x", "z"), ("y", "z")], "b": [("u",), ("v",)], "c": [("w",)], "d": [("u", "x")]}]),
]
OF_ALL_KINDS = [None, True, False, 0, -1, 101, FOUR_HUNDRED_FIGURES, "a", "", [], [0], [()], [("x",)], (), (0,),
                [2, 1], [True], [["x"]], [("y",), ("x",)]]


def cases():
    return [(by, worths) for by, dicts in RECKONINGS for worths in dicts]


class ReckonedTestCase(unittest.TestCase, HandedOver):
    def assert_reckoned(self, why, by, worths, expected):
        with self.subTest(by=by.__class__.__name__, why=repr(why)[:80], worths=repr(worths)[:80]):
            self.assert_own_answer(lambda handed_why, handed_worths: reckoned(handed_why, by, handed_worths),
                                   lambda: (copy.deepcopy(why), copy.deepcopy(worths)), expected)
            told = reckoned(why, by, worths)
            self.assertIs(told.__class__, expected.__class__)
            self.assertIs(by.fits(told), True)

    def assert_refused(self, why, by, worths):
        with self.subTest(by=by.__class__.__name__, why=repr(why)[:80], worths=repr(worths)[:80]):
            before = copy.deepcopy((why, worths))
            with self.assertRaises(NoWorth) as caught:
                reckoned(why, by, worths)
            self.assertIs(caught.exception.__class__, NoWorth)
            self.assertEqual((why, worths), before)


class EachReckoningTest(ReckonedTestCase):
    WHY = [(("a", "a"), 2), (("a", "b"), 1), (("c",), 3)]

    def test_counts(self):
        self.assert_reckoned(self.WHY, Counts(), {"a": 5, "b": 7, "c": 11}, 2 * 25 + 35 + 33)
        self.assert_reckoned(self.WHY, Counts(), dict.fromkeys("abc", 1), 6)
        self.assert_reckoned(self.WHY, Counts(), {"a": 0, "b": 7, "c": 1}, 3)
        self.assert_reckoned([(("a", "a"), SIXTY_FIGURES)], Counts(), {"a": SIXTY_FIGURES}, SIXTY_FIGURES ** 3)

    def test_costs(self):
        self.assert_reckoned(self.WHY, Costs(), {"a": 5, "b": 4, "c": 11}, 9)
        self.assert_reckoned(self.WHY, Costs(), {"a": 5, "b": 6, "c": 11}, 10)
        self.assert_reckoned(self.WHY, Costs(), {"a": 5, "b": 6, "c": -1}, -1)
        self.assert_reckoned(self.WHY, Costs(), {"a": None, "b": 6, "c": 11}, 11)
        self.assert_reckoned(self.WHY, Costs(), {"a": 5, "b": None, "c": None}, 10)
        self.assert_reckoned(self.WHY, Costs(), {"a": None, "b": 0, "c": None}, None)

    def test_bests(self):
        self.assert_reckoned(self.WHY, Bests(), {"a": [1], "b": [5], "c": [4]}, [2, 2, 4])
        self.assert_reckoned(self.WHY, Bests(1), {"a": [1], "b": [5], "c": [4]}, [2])
        self.assert_reckoned(self.WHY, Bests(9), {"a": [1], "b": [5], "c": [4]}, [2, 2, 4, 4, 4, 6])
        self.assert_reckoned(self.WHY, Bests(9), {"a": [0, 1], "b": [], "c": [-1]}, [-1, -1, -1, 0, 0, 1, 1, 1, 1])
        self.assert_reckoned([(("a",), SIXTY_FIGURES)], Bests(), {"a": [3, 4]}, [3, 3, 3])

    def test_trusts(self):
        self.assert_reckoned(self.WHY, Trusts(), {"a": 40, "b": 90, "c": 30}, 40)
        self.assert_reckoned(self.WHY, Trusts(), {"a": 40, "b": 90, "c": 60}, 60)
        self.assert_reckoned([(("a", "b"), 9)], Trusts(7), {"a": 7, "b": 2}, 2)

    def test_truths(self):
        self.assert_reckoned(self.WHY, Truths(), {"a": True, "b": False, "c": False}, True)
        self.assert_reckoned(self.WHY, Truths(), {"a": False, "b": True, "c": False}, False)
        self.assert_reckoned(self.WHY, Truths(), {"a": False, "b": False, "c": True}, True)

    def test_hands(self):
        self.assert_reckoned(self.WHY, Hands(), {"a": [("x", "y")], "b": [()], "c": [("z",)]}, [("x", "y"), ("z",)])
        self.assert_reckoned([(("a", "b"), 5)], Hands(), {"a": [("x",), ("y",)], "b": [("x",), ("z",)]},
                             [("x",), ("y", "z")])
        self.assert_reckoned(self.WHY, Hands(), {"a": [], "b": [("x",)], "c": []}, [])

    def test_no_product_and_the_product_of_no_facts(self):
        for by, worths in cases():
            for some in (worths, {}):
                self.assert_reckoned([], by, some, by.nought())
                self.assert_reckoned(UNIT, by, some, by.unit())

    def test_the_why_of_one_fact_is_its_worth(self):
        for by, worths in cases():
            for name in NAMES:
                self.assert_reckoned(of_fact(name), by, worths, worths[name])

    def test_ways_of_many_figures(self):
        for by, worths in cases():
            why = [(("a",), SIXTY_FIGURES), (("b",), 1)]
            expected = by.either(by.repeated(worths["a"], SIXTY_FIGURES), worths["b"])
            self.assert_reckoned(why, by, worths, expected)

    def test_worths_of_four_hundred_figures(self):
        much = FOUR_HUNDRED_FIGURES
        self.assert_reckoned([(("a", "b"), 2)], Counts(), {"a": much, "b": much}, 2 * much * much)
        self.assert_reckoned([(("a", "b"), 2)], Costs(), {"a": much, "b": -much}, 0)
        self.assert_reckoned([(("a", "b"), 2)], Bests(), {"a": [much], "b": [-much, much]}, [0, 0, 2 * much])
        self.assert_reckoned([(("a", "b"), 2)], Trusts(much), {"a": much, "b": much - 1}, much - 1)

    def test_many_products_of_many_factors(self):
        names = ["w" + str(number) for number in range(100, 400)]
        sums = [((name,), 2) for name in names]
        self.assertEqual(reckoned(sums, Counts(), dict.fromkeys(names, 3)), 1800)
        self.assertEqual(reckoned(sums, Costs(), {name: -int(name[1:]) for name in names}), -399)
        self.assertEqual(reckoned(sums, Hands(), dict.fromkeys(names, [("x",), ("y", "z")])), [("x",), ("y", "z")])
        product = [(tuple(names), 2)]
        self.assertEqual(reckoned(product, Counts(), dict.fromkeys(names, 2)), 2 ** 301)
        self.assertEqual(reckoned(product, Bests(), dict.fromkeys(names, [1, 2])), [300, 300, 301])
        self.assertEqual(reckoned(product, Hands(), dict.fromkeys(names, [("x",), ("y", "z")])), [("x",), ("y", "z")])

    def test_a_dict_with_the_same_list_several_times(self):
        same = [1, 2]
        worths = dict.fromkeys(NAMES, same)
        told = reckoned(of_fact("a"), Bests(), worths)
        self.assertEqual(told, [1, 2])
        self.assertIsNot(told, same)
        same.append(3)
        self.assertEqual(told, [1, 2])
        self.assertEqual(reckoned(of_fact("a"), Bests(), worths), [1, 2, 3])


class RefusedTest(ReckonedTestCase):
    def test_a_name_that_the_dict_has_not(self):
        for by, worths in cases():
            for why in SOME_WHYS:
                self.assertEqual(worths.keys(), set(NAMES))
                for name in names_of(why):
                    self.assert_refused(why, by, {key: worths[key] for key in NAMES if key != name})
                if names_of(why):
                    self.assert_refused(why, by, {})

    def test_a_worth_that_is_none_of_the_reckonings(self):
        for by, worths in cases():
            for thing in OF_ALL_KINDS:
                for name in "abc":
                    handed = dict(worths)
                    handed[name] = thing
                    why = [((), 1), (("a", "b"), 1), (("c",), 2)]
                    if by.fits(thing):
                        reckoned(why, by, handed)
                    else:
                        self.assert_refused(why, by, handed)

    def test_some_by_name(self):
        why = of_fact("a")
        for by, things in [
            (Counts(), [-1, True, False, None, [], "1"]), (Costs(), [True, False, "1", [1], ()]),
            (Bests(2), [[1, 2, 3], [2, 1], [True], (1,), None, 1]), (Trusts(9), [10, -1, True, None, [9]]),
            (Truths(), [0, 1, None, "", [True]]), (Hands(), [None, (), [["x"]], [("y",), ("x",)], [("x", "x")], ["x"]]),
        ]:
            for thing in things:
                self.assert_refused(why, by, {"a": thing})

    def test_a_name_that_adds_nothing_is_still_asked(self):
        self.assert_refused([(("a", "b"), 1)], Counts(), {"a": 0})
        self.assert_refused([(("a", "b"), 1)], Costs(), {"a": None, "b": True})
        self.assert_refused([(("a",), 1), (("b",), 1)], Truths(), {"a": True})
        self.assert_refused([((), 1), (("b",), 1)], Hands(), {"b": [["x"]]})

    def test_other_names_do_not_matter(self):
        for by, worths in cases():
            for thing in OF_ALL_KINDS:
                handed = {"a": worths["a"], "b": thing, "aa": thing, "z": thing}
                self.assert_reckoned(of_fact("a"), by, handed, worths["a"])
                self.assert_reckoned([], by, {"a": thing}, by.nought())
                self.assert_reckoned(UNIT, by, {"a": thing}, by.unit())


def some_why(chance, names):
    pairs = [(chance.choices(names, k=chance.randrange(4)), chance.randrange(4)) for pair in range(chance.randrange(5))]
    return gathered(pairs)


class TheWholeTest(ReckonedTestCase):
    """What follows of the promise for whys alone."""

    def test_sums_and_products(self):
        for by, worths in cases():
            for one, other in itertools.product(SOME_WHYS, repeat=2):
                left, right = reckoned(one, by, worths), reckoned(other, by, worths)
                self.assert_reckoned(plus(one, other), by, worths, by.either(left, right))
                self.assert_reckoned(times(one, other), by, worths, by.both(left, right))

    def test_many_sums_and_products(self):
        chance = random.Random(3)
        for step in range(60):
            one, other = some_why(chance, NAMES), some_why(chance, NAMES)
            for by, worths in cases():
                left, right = reckoned(one, by, worths), reckoned(other, by, worths)
                self.assertEqual(reckoned(plus(one, other), by, worths), by.either(left, right))
                self.assertEqual(reckoned(times(one, other), by, worths), by.both(left, right))

    def test_filled_and_then_reckoned(self):
        chance = random.Random(15)
        for step in range(60):
            # The name d stays a factor: it is in no dict of whys.
            why = some_why(chance, NAMES)
            whys = {name: some_why(chance, NAMES) for name in "abc"}
            for by, worths in cases():
                inner = {name: reckoned(whys[name], by, worths) for name in whys}
                inner["d"] = worths["d"]
                self.assertEqual(reckoned(filled(why, whys), by, worths), reckoned(why, by, inner))


if __name__ == "__main__":
    unittest.main()
