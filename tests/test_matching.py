import copy
import itertools
import unittest

from helpers import SIXTY_FIGURES, HandedOver
from whyrows.matching import holds, matched, put_in

MUCH = SIXTY_FIGURES


class MatchedTest(unittest.TestCase, HandedOver):
    def assert_matched(self, terms, row, binding, expected):
        with self.subTest(terms=terms, row=row, binding=binding):
            if expected is None:
                before = copy.deepcopy(binding)
                self.assertIsNone(matched(terms, row, binding))
                self.assertEqual(binding, before)
            else:
                self.assert_own_answer(matched, lambda: (terms, row, dict(binding)), expected)

    def test_no_terms_and_the_row_of_no_values(self):
        self.assert_matched((), (), {}, {})
        self.assert_matched((), (), {"X": 1}, {"X": 1})
        self.assert_matched((), (1,), {}, None)
        self.assert_matched(("X",), (), {}, None)
        self.assert_matched((1,), (), {}, None)

    def test_lengths_that_are_unlike(self):
        for many, more in itertools.product(range(5), repeat=2):
            variables = ("X", "Y", "Z", "W")[:many]
            expected = dict.fromkeys(variables, 7) if many == more else None
            self.assert_matched(variables, (7,) * more, {}, expected)
            self.assert_matched((7,) * many, (7,) * more, {"X": 1}, {"X": 1} if many == more else None)
            self.assert_matched(("X",) * many, (7,) * more, {"X": 7}, {"X": 7} if many == more else None)

    def test_values(self):
        values = [0, 1, -1, MUCH, -MUCH, MUCH - 1, "a", "b", "a1", "x"]
        for one, other in itertools.product(values, repeat=2):
            self.assert_matched((one,), (other,), {}, {} if one == other else None)
            self.assert_matched((one,), (other,), {"X": other, "Y": one},
                                {"X": other, "Y": one} if one == other else None)
            for place in range(4):
                terms = tuple([one if here == place else here for here in range(4)])
                row = tuple([other if here == place else here for here in range(4)])
                self.assert_matched(terms, row, {}, {} if one == other else None)

    def test_variables_become_bound(self):
        self.assert_matched(("X",), (1,), {}, {"X": 1})
        self.assert_matched(("X", "Y"), (1, "a"), {}, {"X": 1, "Y": "a"})
        self.assert_matched(("X", 2, "Y", "b"), (1, 2, "a", "b"), {}, {"X": 1, "Y": "a"})
        self.assert_matched(("X", 2, "Y", "b"), (1, 2, "a", "c"), {}, None)
        self.assert_matched(("X", 2, "Y", "b"), (1, 3, "a", "b"), {}, None)
        self.assert_matched(("X",), (MUCH,), {"Y": 1}, {"X": MUCH, "Y": 1})
        self.assert_matched(("X",), ("x",), {}, {"X": "x"})

    def test_a_variable_that_is_bound_ahead(self):
        self.assert_matched(("X",), (1,), {"X": 1}, {"X": 1})
        self.assert_matched(("X",), (1,), {"X": 2}, None)
        self.assert_matched(("X",), (1,), {"X": "a"}, None)
        self.assert_matched(("X",), (0,), {"X": 0}, {"X": 0})
        self.assert_matched(("X",), (1,), {"X": 0}, None)
        self.assert_matched(("X", "Y"), (1, 2), {"X": 1}, {"X": 1, "Y": 2})
        self.assert_matched(("Y", "X"), (1, 2), {"X": 1}, None)
        self.assert_matched(("Y", "X"), (2, 1), {"X": 1}, {"X": 1, "Y": 2})
        self.assert_matched(("X", "Y"), (1, 2), {"X": 1, "Y": 3, "Z": 4}, None)
        self.assert_matched(("X", "Y"), (1, 3), {"X": 1, "Y": 3, "Z": 4}, {"X": 1, "Y": 3, "Z": 4})

    def test_a_variable_that_stands_at_two_places(self):
        for one, other in itertools.product([0, 1, "a"], repeat=2):
            self.assert_matched(("X", "X"), (one, other), {}, {"X": one} if one == other else None)
            self.assert_matched(("X", 5, "Y", "X"), (one, 5, 6, other), {},
                                {"X": one, "Y": 6} if one == other else None)
            self.assert_matched(("X", "X"), (one, other), {"X": 1}, {"X": 1} if one == other == 1 else None)
        self.assert_matched(("X", "X", "X", "X"), (1, 1, 1, 1), {}, {"X": 1})
        self.assert_matched(("X", "X", "X", "X"), (1, 1, 1, 2), {}, None)
        self.assert_matched(("X", "Y", "X", "Y"), (1, 2, 1, 2), {}, {"X": 1, "Y": 2})
        self.assert_matched(("X", "Y", "Y", "X"), (1, 2, 1, 2), {}, None)

    def test_a_word_is_no_variable(self):
        self.assert_matched(("x",), ("a",), {}, None)
        self.assert_matched(("x",), ("x",), {"X": "a"}, {"X": "a"})

    def test_a_binding_stays_where_there_is_no_match(self):
        binding = {"X": 1}
        self.assertIsNone(matched(("X", "Y", 5), (1, 2, 3), binding))
        self.assertEqual(binding, {"X": 1})

    def test_the_told_binding_is_another_one(self):
        for binding in ({}, {"X": 1}):
            for terms, row in [((), ()), (("X",), (1,)), ((3,), (3,))]:
                self.assertIsNot(matched(terms, row, binding), binding)
        self.assertIsNot(matched((), (), {}), matched((), (), {}))


class PutInTest(unittest.TestCase):
    def assert_put_in(self, terms, binding, expected):
        with self.subTest(terms=terms, binding=binding):
            before = dict(binding)
            told = put_in(terms, binding)
            self.assertEqual(told, expected)
            self.assertIs(told.__class__, tuple)
            self.assertEqual(binding, before)

    def test_put_in(self):
        self.assert_put_in((), {}, ())
        self.assert_put_in((), {"X": 1}, ())
        self.assert_put_in((1, "a", -MUCH, "x"), {}, (1, "a", -MUCH, "x"))
        self.assert_put_in((1, "x"), {"X": 5}, (1, "x"))
        self.assert_put_in(("X",), {"X": 0}, (0,))
        self.assert_put_in(("X",), {"X": "a"}, ("a",))
        self.assert_put_in(("X", "Y"), {"Y": 1, "X": 2}, (2, 1))
        self.assert_put_in(("X", 3, "X", "b"), {"X": MUCH, "Z": 1}, (MUCH, 3, MUCH, "b"))
        self.assert_put_in(("X1", "X", "X12", "Xa"), {"X": 1, "X1": 2, "X12": 3, "Xa": 4}, (2, 1, 3, 4))

    def test_what_was_matched_is_put_in_to_the_row(self):
        terms = [1, "a", "X", "Y"]
        for length in range(4):
            for some in itertools.product(terms, repeat=length):
                for row in itertools.product([1, "a", 2], repeat=length):
                    binding = matched(some, row, {})
                    if binding is not None:
                        self.assert_put_in(some, binding, row)
                        self.assertEqual(binding.keys(), set(some) & {"X", "Y"})


class HoldsTest(unittest.TestCase):
    # Each comes before the next one.
    VALUES = [-MUCH, -MUCH + 1, -10, -9, -1, 0, 1, 2, 9, 10, MUCH - 1, MUCH, "a", "a0", "a1", "a10", "a2", "aa", "ab",
              "b", "x", "z", "zz"]

    def assert_holds(self, choice, binding, truth):
        with self.subTest(choice=choice, binding=binding):
            before = dict(binding)
            self.assertIs(holds(choice, binding), truth)
            self.assertEqual(binding, before)

    def test_each_sign_between_all_values_on_either_side(self):
        for (place, one), (more, other) in itertools.product(enumerate(self.VALUES), repeat=2):
            for sign, truth in [("=", place == more), ("!=", place != more), ("<", place < more)]:
                self.assert_holds((sign, one, other), {}, truth)
                self.assert_holds((sign, "X", other), {"X": one}, truth)
                self.assert_holds((sign, one, "Y"), {"Y": other}, truth)
                self.assert_holds((sign, "X", "Y"), {"Y": other, "X": one, "Z": 5}, truth)
                self.assert_holds((sign, "Y", "X"), {"X": other, "Y": one}, truth)

    def test_a_variable_with_itself(self):
        for value in self.VALUES:
            for sign, truth in [("=", True), ("!=", False), ("<", False)]:
                self.assert_holds((sign, "X", "X"), {"X": value}, truth)

    def test_some_by_name(self):
        self.assert_holds(("<", 9, 10), {}, True)
        self.assert_holds(("<", 10, 9), {}, False)
        self.assert_holds(("<", "a9", "a10"), {}, False)
        self.assert_holds(("<", "a10", "a9"), {}, True)
        self.assert_holds(("<", 99, "a"), {}, True)
        self.assert_holds(("<", "a", 99), {}, False)
        self.assert_holds(("=", 1, "a"), {}, False)
        self.assert_holds(("!=", 1, "a"), {}, True)
        self.assert_holds(("=", "x", "X"), {"X": "x"}, True)
        self.assert_holds(("=", "x", "X"), {"X": "a"}, False)


if __name__ == "__main__":
    unittest.main()
