import copy
import itertools
import random
import unittest

from helpers import FOUR_HUNDRED_FIGURES, ODD_THINGS, SIXTY_FIGURES, HandedOver, nested
from whyrows.reckonings import Bests, Costs, Counts, Hands, Reckoning, Trusts, Truths
from whyrows.sets import thinned

MUCH = FOUR_HUNDRED_FIGURES
NUMBERS = [0, 1, 2, 7, 100, SIXTY_FIGURES, MUCH]
OF_BOTH_SIGNS = NUMBERS + [-number for number in NUMBERS[1:]]
OFTEN = [1, 2, 3, 10, SIXTY_FIGURES - 1, SIXTY_FIGURES]


class ReckoningTestCase(unittest.TestCase, HandedOver):
    def assert_worth(self, by, told, expected):
        self.assertEqual(told, expected)
        self.assertIs(told.__class__, expected.__class__)
        self.assertIs(by.fits(told), True)

    def assert_fits(self, by, truth, things):
        for thing in things:
            with self.subTest(thing=repr(thing)[:80]):
                before = copy.deepcopy(thing)
                self.assertIs(by.fits(thing), truth)
                self.assertEqual(thing, before)

    def assert_told(self, call, arguments, expected):
        """Also that what is handed in is left, and what is told is the asker's own."""
        with self.subTest(arguments=repr(arguments)[:80]):
            self.assert_own_answer(call, lambda: copy.deepcopy(arguments), expected)
            self.assert_worth(call.__self__, call(*copy.deepcopy(arguments)), expected)

    def assert_in_both_orders(self, call, one, other, expected):
        self.assert_told(call, (one, other), expected)
        self.assert_told(call, (other, one), expected)

    def assert_nought_and_unit(self, by, nought, unit, worths):
        self.assert_told(by.nought, (), nought)
        self.assert_told(by.unit, (), unit)
        for worth in worths:
            self.assert_in_both_orders(by.either, nought, worth, worth)
            self.assert_in_both_orders(by.both, unit, worth, worth)
            self.assert_in_both_orders(by.both, nought, worth, nought)
            self.assert_told(by.repeated, (worth, 0), nought)
            self.assert_told(by.repeated, (worth, 1), worth)
        for many in [0] + OFTEN:
            self.assert_told(by.repeated, (nought, many), nought)

    def assert_repeated_is_a_sum(self, by, worths):
        for worth in worths:
            expected = by.nought()
            for many in range(12):
                self.assert_told(by.repeated, (worth, many), expected)
                expected = by.either(expected, worth)

    def assert_laws(self, by, worths):
        for one, other in itertools.product(worths, repeat=2):
            self.assertEqual(by.either(one, other), by.either(other, one))
            self.assertEqual(by.both(one, other), by.both(other, one))
        for one, other, third in itertools.product(worths, repeat=3):
            self.assertEqual(by.either(one, by.either(other, third)), by.either(by.either(one, other), third))
            self.assertEqual(by.both(one, by.both(other, third)), by.both(by.both(one, other), third))
            self.assertEqual(by.both(one, by.either(other, third)), by.either(by.both(one, other), by.both(one, third)))

    def odd_but(self, worths):
        """The odd things that are none of these."""
        return [thing for thing in ODD_THINGS if not any(repr(thing) == repr(worth) for worth in worths)]


class BaseTest(unittest.TestCase):
    def test_the_six_stand_under_it(self):
        for by in (Counts(), Costs(), Bests(), Trusts(), Truths(), Hands()):
            self.assertIsInstance(by, Reckoning)

    def test_it_can_be_made(self):
        self.assertIsInstance(Reckoning(), Reckoning)


class CountsTest(ReckoningTestCase):
    by = Counts()

    def test_worths(self):
        self.assert_fits(self.by, True, NUMBERS)

    def test_no_worths(self):
        self.assert_fits(self.by, False, ODD_THINGS + [-number for number in NUMBERS[1:]])
        self.assert_fits(self.by, False, [True, False, None, "0", "1", "a", [], (), [1], (1,), [()]])

    def test_nought_and_unit(self):
        self.assert_nought_and_unit(self.by, 0, 1, NUMBERS)

    def test_either_and_both(self):
        self.assert_in_both_orders(self.by.either, 2, 3, 5)
        self.assert_in_both_orders(self.by.both, 2, 3, 6)
        for one, other in itertools.product(NUMBERS, repeat=2):
            self.assert_told(self.by.either, (one, other), one + other)
            self.assert_told(self.by.both, (one, other), one * other)

    def test_repeated(self):
        self.assert_repeated_is_a_sum(self.by, NUMBERS)
        for worth in NUMBERS:
            for many in OFTEN:
                self.assert_told(self.by.repeated, (worth, many), worth * many)

    def test_laws(self):
        self.assert_laws(self.by, NUMBERS)


class CostsTest(ReckoningTestCase):
    by = Costs()

    def test_worths(self):
        self.assert_fits(self.by, True, OF_BOTH_SIGNS + [None])

    def test_no_worths(self):
        self.assert_fits(self.by, False, self.odd_but([None]))
        self.assert_fits(self.by, False, [True, False, "0", "-1", "a", "None", [], (), [1], (1,), [None], (None,)])

    def test_nought_and_unit(self):
        self.assert_nought_and_unit(self.by, None, 0, OF_BOTH_SIGNS + [None])

    def test_either_and_both(self):
        self.assert_in_both_orders(self.by.either, 2, 3, 2)
        self.assert_in_both_orders(self.by.both, 2, 3, 5)
        self.assert_in_both_orders(self.by.either, -3, 2, -3)
        self.assert_in_both_orders(self.by.both, -3, 2, -1)
        for one, other in itertools.product(OF_BOTH_SIGNS, repeat=2):
            self.assert_told(self.by.either, (one, other), one if one < other else other)
            self.assert_told(self.by.both, (one, other), one + other)

    def test_what_can_not_be_had(self):
        self.assert_told(self.by.either, (None, None), None)
        self.assert_told(self.by.both, (None, None), None)
        for number in OF_BOTH_SIGNS:
            self.assert_in_both_orders(self.by.either, None, number, number)
            self.assert_in_both_orders(self.by.both, None, number, None)

    def test_repeated(self):
        self.assert_repeated_is_a_sum(self.by, OF_BOTH_SIGNS + [None])
        for worth in OF_BOTH_SIGNS + [None]:
            for many in OFTEN:
                self.assert_told(self.by.repeated, (worth, many), worth)

    def test_laws(self):
        self.assert_laws(self.by, OF_BOTH_SIGNS + [None])


def slowly_least(numbers, most):
    """The least ones by another way: the least of what is left, taken out one by one."""
    left = list(numbers)
    told = []
    while left and len(told) < most:
        told.append(min(left))
        left.remove(told[-1])
    return told


class BestsTest(ReckoningTestCase):
    LISTS = [[], [0], [5], [-1], [0, 0], [1, 1, 1], [-2, 0, 3], [2, 4, 4], [-MUCH, -1, MUCH], [MUCH, MUCH, MUCH]]

    def long_lists(self):
        return [[], [0], list(range(9)), [4] * 9, [-MUCH] * 4 + [0, 0, MUCH], [1, 1, 2, 3, 5, 8, 13, 21, 34]]

    def each(self):
        return [(Bests(1), 1, [[], [0], [-7], [MUCH], [-MUCH]]), (Bests(), 3, self.LISTS),
                (Bests(3), 3, self.LISTS), (Bests(9), 9, self.long_lists())]

    def test_worths(self):
        for by, most, worths in self.each():
            self.assert_fits(by, True, worths)
            for many in range(most + 1):
                self.assert_fits(by, True, [[0] * many, list(range(many)), [-SIXTY_FIGURES] * many])

    def test_the_most_left_out_is_three(self):
        self.assert_fits(Bests(), True, [[1], [1, 2], [1, 2, 3]])
        self.assert_fits(Bests(), False, [[1, 2, 3, 4]])
        self.assert_told(Bests().either, ([1, 2, 3], [0]), [0, 1, 2])
        self.assert_told(Bests().repeated, ([1], 5), [1, 1, 1])

    def test_every_most(self):
        for most in range(1, 10):
            by = Bests(most)
            self.assert_fits(by, True, [[7] * most])
            self.assert_fits(by, False, [[7] * (most + 1)])
            self.assert_told(by.repeated, ([7], SIXTY_FIGURES), [7] * most)

    def test_lists_that_are_too_long(self):
        for by, most, worths in self.each():
            self.assert_fits(by, False, [[0] * (most + 1), list(range(most + 1)), [0] * 300])

    def test_lists_out_of_order(self):
        for by in (Bests(), Bests(9)):
            self.assert_fits(by, False, [[1, 0], [0, -1], [1, 2, 1], [2, 1, 3], [MUCH, -MUCH], [3, 2, 1], [0, 1, 0]])
        self.assert_fits(Bests(9), False, [[0, 1, 2, 3, 4, 5, 6, 8, 7]])

    def test_other_things(self):
        for by, most, worths in self.each():
            self.assert_fits(by, False, self.odd_but([[0]]))
            self.assert_fits(by, False, [
                0, 1, True, None, "a", "", (), (0,), (1, 2), [None], [True], [False], ["a"], ["1"], [[]], [()], [[0]],
                [(0,)], [0, True], [False, 1], [0, None], [None, 0], [0, "a"], [0, [1]], [0, (1,)], ["a", 1]])

    def test_nought_and_unit(self):
        for by, most, worths in self.each():
            self.assert_nought_and_unit(by, [], [0], worths)

    def test_either(self):
        by = Bests()
        self.assert_in_both_orders(by.either, [1], [2], [1, 2])
        self.assert_in_both_orders(by.either, [1, 3], [2, 3], [1, 2, 3])
        self.assert_in_both_orders(by.either, [1, 1], [1, 2], [1, 1, 1])
        self.assert_in_both_orders(by.either, [5, 6, 7], [-1], [-1, 5, 6])
        self.assert_in_both_orders(by.either, [1, 2, 3], [4, 5, 6], [1, 2, 3])
        self.assert_in_both_orders(Bests(1).either, [4], [3], [3])
        self.assert_in_both_orders(Bests(9).either, [1, 2, 2], [2, 3], [1, 2, 2, 2, 3])

    def test_both(self):
        by = Bests()
        self.assert_in_both_orders(by.both, [1], [2], [3])
        self.assert_in_both_orders(by.both, [1, 3], [10, 20], [11, 13, 21])
        self.assert_in_both_orders(by.both, [0, 0], [5], [5, 5])
        self.assert_in_both_orders(by.both, [0, 0], [5, 5], [5, 5, 5])
        self.assert_in_both_orders(by.both, [-3, 1], [-3, 1], [-6, -2, -2])
        self.assert_in_both_orders(Bests(1).both, [4], [-3], [1])
        self.assert_in_both_orders(Bests(9).both, [1, 2], [1, 2, 3], [2, 3, 3, 4, 4, 5])

    def test_all_pairs_against_another_way(self):
        for by, most, worths in self.each():
            for one, other in itertools.product(worths, repeat=2):
                self.assert_told(by.either, (one, other), slowly_least(one + other, most))
                sums = [left + right for left in one for right in other]
                self.assert_told(by.both, (one, other), slowly_least(sums, most))

    def test_one_and_the_same_list(self):
        same = [1, 2]
        self.assertEqual(Bests().either(same, same), [1, 1, 2])
        self.assertEqual(Bests().both(same, same), [2, 3, 3])
        self.assertEqual(same, [1, 2])

    def test_repeated(self):
        by = Bests()
        self.assert_told(by.repeated, ([1, 2, 3], 2), [1, 1, 2])
        self.assert_told(by.repeated, ([1, 2, 3], SIXTY_FIGURES), [1, 1, 1])
        self.assert_told(by.repeated, ([4], 2), [4, 4])
        self.assert_told(Bests(9).repeated, ([1, 5], 4), [1, 1, 1, 1, 5, 5, 5, 5])
        self.assert_told(Bests(9).repeated, ([1, 5], 5), [1, 1, 1, 1, 1, 5, 5, 5, 5])
        for by, most, worths in self.each():
            self.assert_repeated_is_a_sum(by, worths)
            for worth in worths:
                for many in OFTEN:
                    self.assert_told(by.repeated, (worth, many), slowly_least(worth * min(many, 20), most))

    def test_laws(self):
        for by, most, worths in self.each():
            self.assert_laws(by, worths)


class TrustsTest(ReckoningTestCase):
    def each(self):
        return [(Trusts(0), 0, [0]), (Trusts(1), 1, [0, 1]), (Trusts(), 100, [0, 1, 50, 99, 100]),
                (Trusts(SIXTY_FIGURES), SIXTY_FIGURES, [0, 1, 100, 101, SIXTY_FIGURES - 1, SIXTY_FIGURES])]

    def test_worths(self):
        for by, top, worths in self.each():
            self.assert_fits(by, True, worths + [top, top // 2])

    def test_no_worths(self):
        for by, top, worths in self.each():
            self.assert_fits(by, False, [top + 1, top + MUCH, MUCH, -1, -top - 1, -MUCH])
            self.assert_fits(by, False, ODD_THINGS)
            self.assert_fits(by, False, [True, False, None, "0", "a", [], (), [0], (0,), [()]])

    def test_the_top_left_out_is_a_hundred(self):
        self.assert_told(Trusts().unit, (), 100)
        self.assert_fits(Trusts(), True, [100])
        self.assert_fits(Trusts(), False, [101])

    def test_nought_and_unit(self):
        for by, top, worths in self.each():
            self.assert_nought_and_unit(by, 0, top, worths)

    def test_either_and_both(self):
        self.assert_in_both_orders(Trusts().either, 30, 70, 70)
        self.assert_in_both_orders(Trusts().both, 30, 70, 30)
        for by, top, worths in self.each():
            for one, other in itertools.product(worths, repeat=2):
                self.assert_told(by.either, (one, other), one if one > other else other)
                self.assert_told(by.both, (one, other), one if one < other else other)

    def test_repeated(self):
        for by, top, worths in self.each():
            self.assert_repeated_is_a_sum(by, worths)
            for worth in worths:
                for many in OFTEN:
                    self.assert_told(by.repeated, (worth, many), worth)

    def test_laws(self):
        for by, top, worths in self.each():
            self.assert_laws(by, worths)


class TruthsTest(ReckoningTestCase):
    by = Truths()

    def test_worths(self):
        self.assert_fits(self.by, True, [True, False])

    def test_no_worths(self):
        self.assert_fits(self.by, False, self.odd_but([True, False]))
        self.assert_fits(self.by, False, [0, 1, -1, 2, None, "", "a", "True", [], (), [True], (True,), [()]])

    def test_nought_and_unit(self):
        self.assert_nought_and_unit(self.by, False, True, [True, False])

    def test_either_and_both(self):
        for one, other, either, both in [(False, False, False, False), (False, True, True, False),
                                         (True, False, True, False), (True, True, True, True)]:
            self.assertIs(self.by.either(one, other), either)
            self.assertIs(self.by.both(one, other), both)

    def test_repeated(self):
        self.assert_repeated_is_a_sum(self.by, [True, False])
        for worth in (True, False):
            self.assertIs(self.by.repeated(worth, 0), False)
            for many in OFTEN:
                self.assertIs(self.by.repeated(worth, many), worth)

    def test_laws(self):
        self.assert_laws(self.by, [True, False])


class HandsTest(ReckoningTestCase):
    by = Hands()
    ACCORDS = [[], [()], [("a",)], [("b",)], [("a",), ("b",)], [("a", "b")], [("a", "b"), ("a", "c"), ("b", "c")],
               [("a", "b", "c"), ("d",)], [("a9",), ("aa",), ("ab", "b")]]

    def test_worths(self):
        self.assert_fits(self.by, True, self.ACCORDS)
        self.assert_fits(self.by, True, [
            [("a", "b", "z"), ("a", "c"), ("a9",), ("b", "c")], [("if",)], [("abcdefghijkl",)], [("a", "b"), ("ab",)],
            [("w" + str(number),) for number in range(100, 400)],
            [tuple(["w" + str(number) for number in range(100, 400)])]])

    def test_sets_that_are_none(self):
        self.assert_fits(self.by, False, [
            [("b", "a")], [("a", "a")], [("a", "b", "a")], [("a", "b", "b")], [("aa", "a9")], [("a",), ("c", "b")],
            [["a"]], [[]], [("a",), ["b"]], ["a"], ["ab"], [""], [None], [True], [0], [1]])

    def test_words_that_are_none(self):
        for part in ["", "A", "X", "Xy", "1", "1a", "a b", "a-", "abcdefghijklm", "\xe9", 0, 1, True, None, (), ("a",),
                     [], ["a"]]:
            self.assert_fits(self.by, False, [[(part,)], [("a", part)], [(part, "zz")], [("a",), (part, "b")]])

    def test_sets_out_of_order_or_twice(self):
        self.assert_fits(self.by, False, [
            [("b",), ("a",)], [("a",), ("a",)], [(), ()], [("a", "c"), ("a", "b")], [("a", "d"), ("b",), ("a", "c")],
            [("aa",), ("a9",)], [("b", "c"), ("a", "d")]])

    def test_a_set_within_another_one(self):
        self.assert_fits(self.by, False, [
            [(), ("a",)], [("a",), ("a", "b")], [("a", "b"), ("b",)], [("a", "b", "c"), ("a", "c")],
            [("a", "b"), ("a", "b", "c"), ("d",)], [("a", "b", "c"), ("b", "c"), ("d",)],
            [("a", "b"), ("c",), ("d", "e"), ("d", "e", "f")]])

    def test_other_things(self):
        self.assert_fits(self.by, False, self.odd_but([[()], [("a",)]]))
        self.assert_fits(self.by, False, [
            None, True, False, 0, 1, "", "a", "[]", (), ((),), (("a",),), ("a",), [0], [[()]], [((),)], [(("a",),)],
            [((), 1)], [(("a",), 1)], nested(8, list), nested(8, tuple)])

    def test_nought_and_unit(self):
        self.assert_nought_and_unit(self.by, [], [()], self.ACCORDS)

    def test_either(self):
        self.assert_in_both_orders(self.by.either, [("a",)], [("b",)], [("a",), ("b",)])
        self.assert_in_both_orders(self.by.either, [("a",)], [("a", "b"), ("c",)], [("a",), ("c",)])
        self.assert_in_both_orders(self.by.either, [("a", "b")], [("a", "b"), ("b", "c")], [("a", "b"), ("b", "c")])
        self.assert_in_both_orders(self.by.either, [("a", "c"), ("b",)], [("a", "b"), ("c",)], [("b",), ("c",)])
        for accord in self.ACCORDS:
            self.assert_in_both_orders(self.by.either, [()], accord, [()])

    def test_both(self):
        self.assert_in_both_orders(self.by.both, [("a",)], [("b",)], [("a", "b")])
        self.assert_in_both_orders(self.by.both, [("a",), ("b",)], [("a",), ("c",)], [("a",), ("b", "c")])
        self.assert_in_both_orders(self.by.both, [("a", "b"), ("c",)], [("b", "c")], [("b", "c")])

    def test_all_pairs_against_another_way(self):
        for one, other in itertools.product(self.ACCORDS, repeat=2):
            self.assert_told(self.by.either, (one, other), thinned(one + other))
            joined = [sorted(left + right) for left in one for right in other]
            self.assert_told(self.by.both, (one, other), thinned(joined))

    def test_one_and_the_same_list(self):
        for accord in self.ACCORDS:
            same = list(accord)
            for told in (self.by.either(same, same), self.by.both(same, same)):
                self.assertEqual(told, accord)
                self.assertIsNot(told, same)

    def test_repeated(self):
        self.assert_repeated_is_a_sum(self.by, self.ACCORDS)
        for worth in self.ACCORDS:
            for many in OFTEN:
                self.assert_told(self.by.repeated, (worth, many), worth)

    def test_laws(self):
        self.assert_laws(self.by, self.ACCORDS)

    def test_many_accords(self):
        chance = random.Random(17)
        accords = [thinned([chance.choices("abcdef", k=chance.randint(1, 4)) for hands in range(chance.randrange(6))])
                   for accord in range(10)]
        self.assert_fits(self.by, True, accords)
        self.assert_laws(self.by, accords)


class ManyAtOnceTest(ReckoningTestCase):
    def test_each_keeps_its_own_most_and_top(self):
        few, more = Bests(1), Bests(9)
        low, high = Trusts(5), Trusts(500)
        self.assertEqual(few.either([1], [2]), [1])
        self.assertEqual(more.either([1], [2]), [1, 2])
        self.assertEqual(Bests().either([1, 2, 3], [2]), [1, 2, 2])
        self.assertEqual((low.unit(), high.unit(), Trusts().unit()), (5, 500, 100))
        self.assertEqual((low.fits(6), high.fits(6)), (False, True))


if __name__ == "__main__":
    unittest.main()
