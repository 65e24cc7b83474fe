import copy
import itertools
import unittest

from helpers import ODD_THINGS, SIXTY_FIGURES, HandedOver
from whyrows.whys import gathered, is_why, of_fact, plus, times

NOUGHT = []
UNIT = [((), 1)]
A = [(("a",), 1)]
SOME_WHYS = [
    NOUGHT, UNIT, A, [((), 3)], [((), 2), (("a",), 1)], [(("b",), 5)], [(("a",), 1), (("b",), 1)],
    [(("a", "a"), 2), (("a", "b"), 1), (("c",), 7)], [(("a",), 1), (("a", "b"), 4), (("b",), 2)],
    [((), 1), (("a", "a", "a"), SIXTY_FIGURES), (("a9", "b"), SIXTY_FIGURES - 1), (("aa",), 10 ** 59)],
]


def slowly_gathered(pairs):
    """The same by another way: looked up in a list of the products found so far, put in its place by hand."""
    found = []
    for names, ways in pairs:
        names = list(names)
        if ways == 0:
            continue
        for entry in found:
            if len(entry[0]) == len(names) and all(entry[0].count(name) == names.count(name) for name in names):
                entry[1] += ways
                break
        else:
            place = 0
            ordered = sorted(names)
            while place < len(found) and sorted(found[place][0]) < ordered:
                place += 1
            found.insert(place, [names, ways])
    return [(tuple(sorted(names)), ways) for names, ways in found]


class IsWhyTest(unittest.TestCase):
    def assert_told(self, truth, things):
        for thing in things:
            with self.subTest(thing=repr(thing)[:80]):
                before = copy.deepcopy(thing)
                self.assertIs(is_why(thing), truth)
                self.assertEqual(thing, before)

    def test_whys(self):
        self.assert_told(True, SOME_WHYS)
        self.assert_told(True, [
            [(("a", "a", "a"), 1)], [((), 1), (("a",), 1), (("a", "a"), 1), (("a", "b"), 1), (("b",), 1)],
            [(("a0", "a00", "a9", "aa", "b"), 1)], [(("a9",), 1), (("aa",), 1)], [(("if",), 10 ** 100)],
            [(("a", "b", "b"), 1), (("a", "c"), 1)], [(tuple(["a"] * 300), 1)],
            [(("a" * (place + 1),), 1) for place in range(12)],
        ])

    def test_three_hundred_products(self):
        why = [(("w" + str(number),), 1) for number in range(100, 400)]
        self.assert_told(True, [why])
        self.assert_told(False, [why + why[-1:], why[1:] + why[:1]])

    def test_no_list(self):
        self.assert_told(False, [(), ((("a",), 1),), (((), 1),), ((), 1), "why", "", "a", 0, 1, True, False, None])

    def test_what_stands_in_it_is_no_pair(self):
        self.assert_told(False, [
            [[("a",), 1]], [[(), 1]], [(("a",),)], [(("a",), 1, 1)], [((), 1, ())], [()], [("a",)], [1], ["a"], [None],
            [("a", "b")], [[]], [True], ["ab"], [((), 1), None], [((), 1), [("a",), 1]], [(1, ("a",))],
        ])

    def test_ways(self):
        self.assert_told(False, [
            [(("a",), ways)] for ways in (0, -1, -SIXTY_FIGURES, True, False, None, "1", "a", "", (), (1,), [], [1])])
        self.assert_told(False, [[((), 0)], [((), True)], [((), 1), (("a",), 0)], [(("a",), 0), (("b",), 1)]])
        self.assert_told(True, [[(("a",), 1)], [(("a",), 2)], [(("a",), SIXTY_FIGURES)]])

    def test_a_product_that_is_no_tuple(self):
        self.assert_told(False, [
            [(product, 1)] for product in (["a"], [], "a", "ab", "", None, 0, 1, True, [("a",)], ["a", "b"])])

    def test_a_factor_that_is_no_word(self):
        for factor in ["", "X", "Xy", "1", "1a", "a b", "a-", "A", "abcdefghijklm", "\xe9", 0, 1, True, False, None,
                       (), ("a",), [], ["a"], [[["a"]]]]:
            self.assert_told(False, [[((factor,), 1)], [((factor, "zz"), 1)], [(("a", factor), 1)],
                                     [(("a", factor, "zz"), 1)], [((), 1), ((factor,), 1)]])

    def test_a_product_out_of_order(self):
        self.assert_told(False, [
            [(("b", "a"), 1)], [(("a", "b", "a"), 1)], [(("aa", "a9"), 1)], [(("ab", "a"), 1)], [(("b", "a", "c"), 1)],
            [(("a", "c", "b"), 1)], [((), 1), (("b", "a"), 1)],
        ])

    def test_products_out_of_order(self):
        self.assert_told(False, [
            [(("b",), 1), (("a",), 1)], [(("a",), 1), ((), 1)], [(("a", "b"), 1), (("a",), 1)],
            [(("aa",), 1), (("a9",), 1)], [(("b",), 1), (("a", "a"), 1)],
            [((), 1), (("a",), 1), (("c",), 1), (("b",), 1)],
        ])

    def test_a_product_twice(self):
        self.assert_told(False, [
            [((), 1), ((), 1)], [(("a",), 1), (("a",), 1)], [(("a",), 1), (("a",), 2)],
            [(("a",), 1), (("b",), 1), (("b",), 1)], [(("a",), 1), (("b",), 1), (("a",), 1)],
        ])

    def test_a_change_of_the_list_is_seen(self):
        why = [(("a",), 1)]
        self.assertIs(is_why(why), True)
        why.append((("a",), 1))
        self.assertIs(is_why(why), False)
        why.pop()
        self.assertIs(is_why(why), True)

    def test_other_things(self):
        self.assert_told(False, ODD_THINGS)
        self.assert_told(False, [[thing] for thing in ODD_THINGS if thing != ((), 1) and thing != (("a",), 1)])
        self.assert_told(False, [[(thing, 1)] for thing in ODD_THINGS])
        self.assert_told(False, [[((), thing)] for thing in ODD_THINGS])


class OfFactTest(unittest.TestCase, HandedOver):
    def test_the_name_alone_once(self):
        for name in ["a", "a7", "if", "abcdefghijkl"]:
            self.assertEqual(of_fact(name), [((name,), 1)])
            self.assertIs(is_why(of_fact(name)), True)

    def test_the_list_is_the_askers_own(self):
        self.assert_own_answer(of_fact, lambda: ("a",), [(("a",), 1)])


class GatheredTest(unittest.TestCase, HandedOver):
    def assert_gathered(self, pairs, expected):
        with self.subTest(pairs=repr(pairs)[:80]):
            told = gathered(pairs)
            self.assertEqual(told, expected)
            self.assertIs(is_why(told), True)

    def test_no_pairs(self):
        self.assert_gathered([], [])

    def test_names_as_a_list_and_as_a_tuple(self):
        self.assert_gathered([(["b", "a"], 1)], [(("a", "b"), 1)])
        self.assert_gathered([(("b", "a"), 1)], [(("a", "b"), 1)])
        self.assert_gathered([(["b", "a"], 1), (("a", "b"), 2), (["a", "b"], 3), (("b", "a"), 4)], [(("a", "b"), 10)])

    def test_names_in_any_order(self):
        for names in itertools.permutations(["a", "a0", "aa", "b"]):
            self.assert_gathered([(names, 1)], [(("a", "a0", "aa", "b"), 1)])
            self.assert_gathered([(list(names), 1), (("b", "aa", "a0", "a"), 1)], [(("a", "a0", "aa", "b"), 2)])

    def test_a_name_several_times(self):
        self.assert_gathered([(["a", "b", "a"], 1)], [(("a", "a", "b"), 1)])
        self.assert_gathered([(("a", "a"), 1), (("a",), 1), (("a", "a", "a"), 1), (("a", "a"), 1)],
                             [(("a",), 1), (("a", "a"), 2), (("a", "a", "a"), 1)])
        self.assert_gathered([(("a", "a", "b"), 1), (("a", "b", "b"), 1)], [(("a", "a", "b"), 1), (("a", "b", "b"), 1)])

    def test_no_names(self):
        self.assert_gathered([((), 1)], [((), 1)])
        self.assert_gathered([([], 2), ((), 3)], [((), 5)])
        self.assert_gathered([(("a",), 1), ([], 2)], [((), 2), (("a",), 1)])

    def test_ways_of_nought(self):
        self.assert_gathered([(["a"], 0)], [])
        self.assert_gathered([((), 0)], [])
        self.assert_gathered([(["a"], 0), (("a",), 0), (["b"], 0)], [])
        self.assert_gathered([(["a"], 0), (["a"], 2)], [(("a",), 2)])
        self.assert_gathered([(["a"], 2), (["a"], 0), (["b"], 0)], [(("a",), 2)])

    def test_ways_of_many_figures(self):
        self.assert_gathered([(["a"], SIXTY_FIGURES), (("a",), SIXTY_FIGURES), (["b"], SIXTY_FIGURES)],
                             [(("a",), 2 * 10 ** 60 - 2), (("b",), SIXTY_FIGURES)])
        self.assert_gathered([(["a"], SIXTY_FIGURES), (("a",), 1)], [(("a",), 10 ** 60)])

    def test_products_come_in_order(self):
        listed = [(), ("a",), ("a", "a"), ("a", "a9"), ("a", "aa"), ("a", "b"), ("a", "b", "c"), ("a", "c"), ("a9",),
                  ("aa",), ("b",), ("b", "z"), ("ba",), ("c",)]
        for step in (1, 3, 5, 9, 11, 13):
            pairs = [(listed[place * step % len(listed)][::-1], step) for place in range(len(listed))]
            self.assert_gathered(pairs, [(product, step) for product in listed])

    def test_all_rows_of_few_pairs_against_another_way(self):
        pairs = [((), 1), (["a"], 2), (("b", "a"), 3), (["a", "b"], 0), (("a", "a"), 1), (("b",), 4)]
        for many in range(5):
            for chosen in itertools.product(pairs, repeat=many):
                self.assertEqual(gathered(list(chosen)), slowly_gathered(chosen))

    def test_three_hundred_pairs_of_three_hundred_names(self):
        names = ["w" + str(number) for number in range(300)]
        pairs = [(names[place:] + names[:place], 1) for place in range(300)]
        self.assert_gathered(pairs, [(tuple(sorted(names)), 300)])

    def test_the_list_is_the_askers_own(self):
        for pairs in [[], [(("a",), 1)], [(["b", "a"], 1), (("c",), 2)], [((), 0)]]:
            with self.subTest(pairs=pairs):
                self.assert_own_answer(gathered, lambda: (copy.deepcopy(pairs),), slowly_gathered(pairs))

    def test_a_later_change_of_the_names_changes_nothing(self):
        names = ["b", "a"]
        pairs = [(names, 1), (names, 2)]
        told = gathered(pairs)
        self.assertEqual(names, ["b", "a"])
        names.append("c")
        self.assertEqual(told, [(("a", "b"), 3)])
        self.assertEqual(gathered(pairs), [(("a", "b", "c"), 3)])


class PlusTest(unittest.TestCase, HandedOver):
    def test_nothing_on_either_side(self):
        for why in SOME_WHYS:
            self.assertEqual(plus(why, []), why)
            self.assertEqual(plus([], why), why)
        self.assertEqual(plus([], []), [])

    def test_the_unit_on_either_side(self):
        self.assertEqual(plus(UNIT, UNIT), [((), 2)])
        self.assertEqual(plus(A, UNIT), [((), 1), (("a",), 1)])
        self.assertEqual(plus(UNIT, A), [((), 1), (("a",), 1)])

    def test_ways_are_summed_where_both_have_a_product(self):
        self.assertEqual(plus([(("a",), 2), (("b",), 3)], [(("b",), 4), (("c",), 5)]),
                         [(("a",), 2), (("b",), 7), (("c",), 5)])
        self.assertEqual(plus([(("a", "a"), 1)], [(("a",), 1)]), [(("a",), 1), (("a", "a"), 1)])

    def test_products_come_in_order(self):
        self.assertEqual(plus([(("a", "b"), 1), (("c",), 1)], [((), 1), (("a",), 1), (("b",), 1), (("d",), 1)]),
                         [((), 1), (("a",), 1), (("a", "b"), 1), (("b",), 1), (("c",), 1), (("d",), 1)])

    def test_ways_of_many_figures(self):
        self.assertEqual(plus([(("a",), SIXTY_FIGURES)], [(("a",), 1)]), [(("a",), 10 ** 60)])

    def test_all_pairs_of_whys_against_another_way(self):
        for one in SOME_WHYS:
            for other in SOME_WHYS:
                told = plus(one, other)
                self.assertEqual(told, slowly_gathered(one + other))
                self.assertIs(is_why(told), True)

    def test_one_and_the_same_list(self):
        for why in SOME_WHYS:
            same = list(why)
            self.assertEqual(plus(same, same), [(product, 2 * ways) for product, ways in why])
            self.assertEqual(same, why)

    def test_the_list_is_the_askers_own(self):
        for one in SOME_WHYS:
            for other in SOME_WHYS:
                self.assert_own_answer(plus, lambda: (list(one), list(other)), slowly_gathered(one + other))


def slowly_times(one, other):
    pairs = []
    for left in one:
        for right in other:
            pairs.append((right[0] + left[0], right[1] * left[1]))
    return slowly_gathered(pairs)


class TimesTest(unittest.TestCase, HandedOver):
    def test_nothing_on_either_side(self):
        for why in SOME_WHYS:
            self.assertEqual(times(why, []), [])
            self.assertEqual(times([], why), [])

    def test_the_unit_on_either_side(self):
        for why in SOME_WHYS:
            self.assertEqual(times(why, UNIT), why)
            self.assertEqual(times(UNIT, why), why)

    def test_factors_are_put_together_in_order(self):
        self.assertEqual(times([(("b",), 1)], A), [(("a", "b"), 1)])
        self.assertEqual(times(A, [(("b",), 1)]), [(("a", "b"), 1)])
        self.assertEqual(times(A, A), [(("a", "a"), 1)])
        self.assertEqual(times([(("a", "c"), 2)], [(("a", "b", "d"), 3)]), [(("a", "a", "b", "c", "d"), 6)])

    def test_each_with_each_and_gathered(self):
        sum_of_two = [(("a",), 1), (("b",), 1)]
        self.assertEqual(times(sum_of_two, sum_of_two), [(("a", "a"), 1), (("a", "b"), 2), (("b", "b"), 1)])
        self.assertEqual(times([((), 1), (("a",), 2)], [((), 3), (("a",), 5), (("b",), 7)]),
                         [((), 3), (("a",), 11), (("a", "a"), 10), (("a", "b"), 14), (("b",), 7)])

    def test_products_come_in_order(self):
        self.assertEqual(times([(("b",), 1), (("c",), 1)], [((), 1), (("a",), 1)]),
                         [(("a", "b"), 1), (("a", "c"), 1), (("b",), 1), (("c",), 1)])

    def test_products_of_many_factors(self):
        self.assertEqual(times([(tuple(["a"] * 300), 1)], [(tuple(["a"] * 150 + ["b"] * 150), 1)]),
                         [(tuple(["a"] * 450 + ["b"] * 150), 1)])
        odd = ["w" + str(number) for number in range(101, 500, 2)]
        even = ["w" + str(number) for number in range(100, 500, 2)]
        self.assertEqual(times([(tuple(odd), 2)], [(tuple(even), 3)]),
                         [(tuple(["w" + str(number) for number in range(100, 500)]), 6)])

    def test_ways_of_many_figures(self):
        self.assertEqual(times([(("a",), SIXTY_FIGURES)], [(("a",), SIXTY_FIGURES)]),
                         [(("a", "a"), 10 ** 120 - 2 * 10 ** 60 + 1)])
        why = [((), 10 ** 59), (("a",), 10 ** 59)]
        told = times(times(why, why), why)
        self.assertEqual(told, [((), 10 ** 177), (("a",), 3 * 10 ** 177), (("a", "a"), 3 * 10 ** 177),
                                (("a", "a", "a"), 10 ** 177)])

    def test_long_whys(self):
        one = [(("w" + str(number),), 1) for number in range(100, 400)]
        told = times(one, one)
        self.assertEqual(len(told), 300 * 301 // 2)
        self.assertEqual(told[0], (("w100", "w100"), 1))
        self.assertEqual(told[1], (("w100", "w101"), 2))
        self.assertEqual(told[-1], (("w399", "w399"), 1))
        self.assertIs(is_why(told), True)

    def test_all_pairs_of_whys_against_another_way(self):
        for one in SOME_WHYS:
            for other in SOME_WHYS:
                told = times(one, other)
                self.assertEqual(told, slowly_times(one, other))
                self.assertEqual(told, times(other, one))
                self.assertIs(is_why(told), True)

    def test_one_and_the_same_list(self):
        for why in SOME_WHYS:
            same = list(why)
            self.assertEqual(times(same, same), slowly_times(why, why))
            self.assertEqual(same, why)

    def test_the_list_is_the_askers_own(self):
        for one in SOME_WHYS:
            for other in SOME_WHYS:
                self.assert_own_answer(times, lambda: (list(one), list(other)), slowly_times(one, other))

    def test_the_product_of_sums_is_the_sum_of_products(self):
        for one, other, third in itertools.product(SOME_WHYS, repeat=3):
            self.assertEqual(times(one, plus(other, third)), plus(times(one, other), times(one, third)))


if __name__ == "__main__":
    unittest.main()
