import copy
import itertools
import random
import unittest

from helpers import SIXTY_FIGURES, HandedOver
from whyrows.parts import bearing, degree, filled, names_of, ways_of, without
from whyrows.whys import gathered, is_why, of_fact, plus, times

NOUGHT = []
UNIT = [((), 1)]
SOME_WHYS = [
    NOUGHT, UNIT, [((), 3)], [(("a",), 1)], [((), 2), (("a",), 1)], [(("b",), 5)], [(("a",), 1), (("b",), 1)],
    [(("a", "a"), 2), (("a", "b"), 1), (("c",), 7)], [(("a",), 1), (("a", "b"), 4), (("b",), 2)],
    [((), 1), (("a", "a", "a"), SIXTY_FIGURES), (("a9", "b"), SIXTY_FIGURES - 1), (("aa",), 10 ** 59)],
]
LONG_WHY = [(tuple(["a"] * 299 + ["w" + str(number)]), number) for number in range(100, 400)]


class WaysOfTest(unittest.TestCase, HandedOver):
    def assert_ways(self, why, expected):
        told = ways_of(why)
        self.assertEqual(told, expected)
        self.assertIs(told.__class__, int)

    def test_no_product_and_the_product_of_no_facts(self):
        self.assert_ways([], 0)
        self.assert_ways([((), 1)], 1)
        self.assert_ways([((), 5)], 5)

    def test_ways_are_summed(self):
        self.assert_ways([(("a",), 1)], 1)
        self.assert_ways([(("a",), 2), (("a", "b"), 3), (("b", "b", "b"), 4)], 9)
        self.assert_ways([((), 1), (("a",), 1)], 2)

    def test_ways_of_many_figures(self):
        self.assert_ways([((), SIXTY_FIGURES), (("a",), 1)], 10 ** 60)
        self.assert_ways([(("a",), SIXTY_FIGURES), (("b",), SIXTY_FIGURES), (("c",), SIXTY_FIGURES)],
                         3 * 10 ** 60 - 3)

    def test_three_hundred_products(self):
        self.assert_ways(LONG_WHY, sum(range(100, 400)))

    def test_the_why_is_left_as_it_was(self):
        for why in SOME_WHYS:
            self.assert_own_answer(ways_of, lambda: (list(why),), sum(pair[1] for pair in why))


class NamesOfTest(unittest.TestCase, HandedOver):
    def test_no_names(self):
        self.assertEqual(names_of([]), [])
        self.assertEqual(names_of([((), 1)]), [])

    def test_each_once(self):
        self.assertEqual(names_of([(("a", "a", "a"), 1)]), ["a"])
        self.assertEqual(names_of([(("a",), 2), (("a", "b"), 1), (("b",), 1)]), ["a", "b"])

    def test_in_order(self):
        self.assertEqual(names_of([((), 1), (("a", "c"), 1), (("b",), 1)]), ["a", "b", "c"])
        self.assertEqual(names_of([(("a", "b", "z"), 1), (("a9", "aa"), 1), (("ab",), 1)]),
                         ["a", "a9", "aa", "ab", "b", "z"])

    def test_three_hundred_products(self):
        self.assertEqual(names_of(LONG_WHY), ["a"] + ["w" + str(number) for number in range(100, 400)])

    def test_the_list_is_the_askers_own(self):
        for why in SOME_WHYS:
            expected = sorted({name for product, ways in why for name in product})
            self.assert_own_answer(names_of, lambda: (list(why),), expected)


class DegreeTest(unittest.TestCase, HandedOver):
    def assert_degree(self, why, expected):
        told = degree(why)
        self.assertEqual(told, expected)
        self.assertIs(told.__class__, int)

    def test_no_factor(self):
        self.assert_degree([], 0)
        self.assert_degree([((), 1)], 0)
        self.assert_degree([((), SIXTY_FIGURES)], 0)

    def test_the_greatest_number_of_factors(self):
        self.assert_degree([(("a",), 5)], 1)
        self.assert_degree([(("a", "b", "c"), 1), (("b",), 9)], 3)
        self.assert_degree([((), 1), (("a", "b"), 1), (("b",), 9)], 2)
        self.assert_degree([(("a",), 1), (("b",), 1), (("c",), 1)], 1)

    def test_a_name_several_times_in_one_product(self):
        self.assert_degree([(("a", "a", "a", "a"), 1), (("b", "c"), 1)], 4)
        self.assert_degree([(("a",), 1), (("b", "b", "c"), 1)], 3)

    def test_three_hundred_factors(self):
        self.assert_degree(LONG_WHY, 300)

    def test_the_why_is_left_as_it_was(self):
        for why in SOME_WHYS:
            self.assert_own_answer(degree, lambda: (list(why),), max([0] + [len(pair[0]) for pair in why]))


def slowly_without(why, names):
    kept = []
    for product, ways in why:
        if not [name for name in names if product.count(name) > 0]:
            kept.append((product, ways))
    return kept


class WithoutTest(unittest.TestCase, HandedOver):
    WHY = [((), 1), (("a",), 2), (("a", "b"), 3), (("a", "b", "b"), 4), (("b", "c"), 5), (("c",), 6), (("d",), 7)]

    def test_no_names(self):
        for why in SOME_WHYS + [self.WHY]:
            self.assertEqual(without(why, []), why)

    def test_one_name(self):
        self.assertEqual(without(self.WHY, ["a"]), [((), 1), (("b", "c"), 5), (("c",), 6), (("d",), 7)])
        self.assertEqual(without(self.WHY, ["b"]), [((), 1), (("a",), 2), (("c",), 6), (("d",), 7)])
        self.assertEqual(without([(("a",), 1)], ["a"]), [])

    def test_several_names_in_any_order(self):
        for names in (["a", "c"], ["c", "a"]):
            self.assertEqual(without(self.WHY, names), [((), 1), (("d",), 7)])
        self.assertEqual(without(self.WHY, ["d", "c", "b", "a"]), [((), 1)])

    def test_a_name_twice(self):
        self.assertEqual(without(self.WHY, ["a", "a"]), without(self.WHY, ["a"]))
        self.assertEqual(without(self.WHY, ["c", "a", "c"]), without(self.WHY, ["a", "c"]))

    def test_a_name_that_the_why_has_not(self):
        self.assertEqual(without(self.WHY, ["e"]), self.WHY)
        self.assertEqual(without(self.WHY, ["aa", "a9", "ab"]), self.WHY)
        self.assertEqual(without(self.WHY, ["e", "d", "f"]), self.WHY[:-1])

    def test_no_product_and_the_product_of_no_facts(self):
        for names in ([], ["a"], ["a", "b"]):
            self.assertEqual(without([], names), [])
            self.assertEqual(without([((), 1)], names), [((), 1)])

    def test_a_name_several_times_in_one_product(self):
        self.assertEqual(without([(("a", "a"), 1), (("a", "b", "b"), 1), (("c", "c"), 9)], ["b"]),
                         [(("a", "a"), 1), (("c", "c"), 9)])

    def test_three_hundred_names(self):
        names = ["w" + str(number) for number in range(399, 99, -1)]
        self.assertEqual(without(LONG_WHY, names), [])
        self.assertEqual(without(LONG_WHY, names[1:]), LONG_WHY[-1:])

    def test_all_whys_against_another_way_as_the_askers_own(self):
        for why in SOME_WHYS + [self.WHY]:
            for many in range(4):
                for names in itertools.product(["a", "b", "c", "e"], repeat=many):
                    expected = slowly_without(why, names)
                    self.assert_own_answer(without, lambda: (list(why), list(names)), expected)
                    self.assertIs(is_why(without(why, list(names))), True)


class BearingTest(unittest.TestCase, HandedOver):
    WHY = WithoutTest.WHY

    def test_the_products_that_have_the_name(self):
        self.assertEqual(bearing(self.WHY, "a"), [(("a",), 2), (("a", "b"), 3), (("a", "b", "b"), 4)])
        self.assertEqual(bearing(self.WHY, "b"), [(("a", "b"), 3), (("a", "b", "b"), 4), (("b", "c"), 5)])
        self.assertEqual(bearing(self.WHY, "d"), [(("d",), 7)])

    def test_a_name_that_the_why_has_not(self):
        for name in ["e", "aa", "a9", "ab", "bb"]:
            self.assertEqual(bearing(self.WHY, name), [])
        self.assertEqual(bearing([(("ab", "abc"), 1)], "a"), [])

    def test_no_product_and_the_product_of_no_facts(self):
        self.assertEqual(bearing([], "a"), [])
        self.assertEqual(bearing([((), 1)], "a"), [])

    def test_a_name_several_times_in_one_product(self):
        self.assertEqual(bearing([(("a", "a"), 2), (("b",), 1)], "a"), [(("a", "a"), 2)])

    def test_both_parts_are_the_whole(self):
        for why in SOME_WHYS + [self.WHY, LONG_WHY]:
            for name in ["a", "b", "c", "e", "w200"]:
                self.assertEqual(plus(without(why, [name]), bearing(why, name)), why)

    def test_the_list_is_the_askers_own(self):
        for why in SOME_WHYS + [self.WHY]:
            for name in ["a", "b", "e"]:
                expected = [pair for pair in why if pair[0].count(name) > 0]
                self.assert_own_answer(bearing, lambda: (list(why), name), expected)
                self.assertIs(is_why(bearing(why, name)), True)


def slowly_filled(why, whys):
    """The same by another way: one pair for each way to choose a product for each factor, gathered at the end."""
    pairs = []
    for product, ways in why:
        choices = [whys[name] if name in whys else [((name,), 1)] for name in product]
        for chosen in itertools.product(*choices):
            names = []
            number = ways
            for part, part_ways in chosen:
                names.extend(part)
                number *= part_ways
            pairs.append((names, number))
    return gathered(pairs)


class FilledTest(unittest.TestCase, HandedOver):
    A_AND_B = [(("a", "b"), 1)]
    TWO = [(("x",), 1), (("y",), 1)]

    def assert_filled(self, why, whys, expected):
        with self.subTest(why=repr(why)[:80], whys=repr(whys)[:80]):
            self.assert_own_answer(filled, lambda: (copy.deepcopy(why), copy.deepcopy(whys)), expected)
            self.assertIs(is_why(filled(why, whys)), True)

    def test_an_empty_dict(self):
        for why in SOME_WHYS:
            self.assert_filled(why, {}, why)

    def test_a_name_that_the_dict_has_not_stays(self):
        self.assert_filled(self.A_AND_B, {"a": of_fact("z")}, [(("b", "z"), 1)])
        self.assert_filled(self.A_AND_B, {"c": of_fact("z")}, self.A_AND_B)
        self.assert_filled([(("a", "c"), 2), (("b",), 3)], {"b": self.TWO}, [(("a", "c"), 2), (("x",), 3), (("y",), 3)])

    def test_no_product_and_the_product_of_no_facts(self):
        for whys in ({}, {"a": []}, {"a": UNIT}, {"a": self.TWO}):
            self.assert_filled([], whys, [])
            self.assert_filled([((), 1)], whys, [((), 1)])
            self.assert_filled([((), 7)], whys, [((), 7)])

    def test_a_name_whose_why_is_nothing(self):
        self.assert_filled([(("a",), 1)], {"a": []}, [])
        self.assert_filled([((), 2), (("a", "b"), 1), (("b", "b"), 3), (("c",), 1)], {"a": []},
                           [((), 2), (("b", "b"), 3), (("c",), 1)])
        self.assert_filled(self.A_AND_B, {"a": self.TWO, "b": []}, [])
        self.assert_filled(self.A_AND_B, {"a": [], "b": self.TWO}, [])

    def test_a_name_whose_why_needs_no_fact(self):
        self.assert_filled([(("a",), 1)], {"a": UNIT}, UNIT)
        self.assert_filled([(("a", "a", "b"), 2), (("b",), 3)], {"a": UNIT}, [(("b",), 5)])
        self.assert_filled([(("a", "a", "b"), 2)], {"a": [((), 3)]}, [(("b",), 18)])

    def test_a_factor_that_stands_twice_is_replaced_twice(self):
        self.assert_filled([(("a", "a"), 1)], {"a": self.TWO}, [(("x", "x"), 1), (("x", "y"), 2), (("y", "y"), 1)])
        self.assert_filled([(("a", "a", "a"), 1)], {"a": [(("x",), 2)]}, [(("x", "x", "x"), 8)])
        self.assert_filled([(("a", "a", "b"), 5)], {"a": [(("x",), 2)]}, [(("b", "x", "x"), 20)])

    def test_whys_of_several_products(self):
        self.assert_filled([(("a", "b"), 2), (("c",), 1)],
                           {"a": [((), 1), (("x",), 2)], "b": [(("x",), 3), (("y",), 1)], "c": [(("x",), 4)]},
                           [(("x",), 10), (("x", "x"), 12), (("x", "y"), 4), (("y",), 2)])

    def test_what_comes_out_alike_is_put_together(self):
        self.assert_filled([(("a",), 2), (("b",), 3)], {"a": of_fact("z"), "b": of_fact("z")}, [(("z",), 5)])
        self.assert_filled([(("a",), 2), (("b",), 3)], {"a": of_fact("b")}, [(("b",), 5)])

    def test_all_factors_are_replaced_at_once(self):
        self.assert_filled([(("a", "a", "b"), 1)], {"a": of_fact("b"), "b": of_fact("a")}, [(("a", "b", "b"), 1)])
        self.assert_filled([(("a",), 1)], {"a": [(("a", "b"), 1)], "b": []}, [(("a", "b"), 1)])

    def test_products_come_in_order(self):
        self.assert_filled([(("a",), 1), (("b",), 1), (("c",), 1)], {"a": of_fact("z"), "c": [((), 1), (("a",), 1)]},
                           [((), 1), (("a",), 1), (("b",), 1), (("z",), 1)])

    def test_other_names_of_the_dict_do_not_matter(self):
        self.assert_filled([(("a",), 1)], {"b": [], "aa": UNIT, "a": of_fact("c"), "c": self.TWO}, [(("c",), 1)])

    def test_ways_of_many_figures(self):
        self.assert_filled([(("a", "b"), SIXTY_FIGURES)], {"a": [(("x",), SIXTY_FIGURES)], "b": [((), SIXTY_FIGURES)]},
                           [(("x",), SIXTY_FIGURES ** 3)])
        self.assert_filled([(("a",) * 60, 1)], {"a": [((), SIXTY_FIGURES)]}, [((), SIXTY_FIGURES ** 60)])
        self.assert_filled([(("a",), SIXTY_FIGURES), (("b",), 1)], {"a": of_fact("b")}, [(("b",), 10 ** 60)])

    def test_three_hundred_products_come_out(self):
        long_sum = [(("w" + str(number),), number) for number in range(100, 400)]
        self.assert_filled([(("a", "b"), 2)], {"a": long_sum}, [(("b", name), 2 * ways) for (name,), ways in long_sum])
        self.assert_filled([(("a",) * 8, 1)], {"a": self.TWO},
                           [(("x",) * (8 - many) + ("y",) * many, ways)
                            for many, ways in enumerate([1, 8, 28, 56, 70, 56, 28, 8, 1])])

    def test_three_hundred_factors_come_out(self):
        self.assert_filled([(("a",) * 150, 1)], {"a": [(("x", "y"), 1)]}, [(("x",) * 150 + ("y",) * 150, 1)])
        renamed = {"w" + str(number): of_fact("v" + str(number)) for number in range(100, 400)}
        self.assertEqual(filled(LONG_WHY, renamed),
                         [(product[:-1] + ("v" + product[-1][1:],), ways) for product, ways in LONG_WHY])
        self.assertEqual(filled(LONG_WHY, {"a": UNIT}), [(product[-1:], ways) for product, ways in LONG_WHY])

    def test_all_against_another_way(self):
        inner = [None] + SOME_WHYS
        for why in SOME_WHYS:
            for of_a, of_b in itertools.product(inner, repeat=2):
                whys = {name: of_name for name, of_name in (("a", of_a), ("b", of_b)) if of_name is not None}
                self.assert_filled(why, whys, slowly_filled(why, whys))

    def test_many_against_another_way(self):
        chance = random.Random(10)
        for step in range(300):
            made = []
            for place in range(4):
                pairs = [(chance.choices(["a", "b", "c", "d"], k=chance.randrange(4)), chance.randrange(4))
                         for pair in range(chance.randrange(4))]
                made.append(gathered(pairs))
            whys = {"a": made[1], "b": made[2], "d": made[3]}
            self.assertEqual(filled(made[0], whys), slowly_filled(made[0], whys))

    def test_sums_and_products_are_filled_each_by_itself(self):
        whys = {"a": [((), 1), (("b",), 2)], "b": [(("a", "c"), 1), (("d",), 1)]}
        for one, other in itertools.product(SOME_WHYS[:-1], repeat=2):
            self.assertEqual(filled(plus(one, other), whys), plus(filled(one, whys), filled(other, whys)))
            self.assertEqual(filled(times(one, other), whys), times(filled(one, whys), filled(other, whys)))


if __name__ == "__main__":
    unittest.main()
