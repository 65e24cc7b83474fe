import itertools
import unittest

from helpers import SIXTY_FIGURES, HandedOver
from whyrows.orders import in_order, pairs_in_order, row_before, value_before

NUMBERS = [-SIXTY_FIGURES, -SIXTY_FIGURES + 1, -10 ** 59, -2 ** 64, -10, -9, -2, -1, 0, 1, 2, 9, 10, 11, 2 ** 64,
           10 ** 59, SIXTY_FIGURES - 1, SIXTY_FIGURES]
# Each word comes before the next one: at the first, a middle and the last place, figures before letters, begins first.
WORDS = ["a", "a0", "a00", "a01", "a0a", "a1", "a10", "a2", "a9", "a9z", "aa", "aaaaaaaaaaa0", "aaaaaaaaaaa9",
         "aaaaaaaaaaaa", "aaaaaaaaaaab", "aab", "ab", "ab0", "aba", "abc", "ac", "az", "b", "b0", "ba", "m", "ma", "z",
         "z0", "zz", "zzzzzzzzzzzz"]
VALUES = NUMBERS + WORDS
# Each row comes before the next one.
ROWS = [(), (-SIXTY_FIGURES,), (-1,), (-1, 5), (-1, "a"), (0,), (0, 0), (0, 0, 0), (0, 0, 0, 0), (0, 0, 0, 1),
        (0, 0, 0, "a"), (0, 0, 1), (0, 0, 1, 0), (0, 0, "a"), (0, 1), (0, 9), (0, 10), (0, "a"), (0, "a", 1),
        (0, "b"), (1,), (2,), (10,), (10, "z"), (SIXTY_FIGURES,), ("a",), ("a", 1), ("a", 1, "b"), ("a", 1, "c"),
        ("a", 2), ("a", "a"), ("a", "a", "a"), ("a", "a", "a", "a"), ("a", "a", "a", "b"), ("a", "b"), ("a", "b", 0),
        ("a0",), ("aa",), ("b",), ("b", -1), ("z", "z", "z", "z")]


class ListedTestCase(unittest.TestCase):
    def assert_order_is_that_of(self, call, listed):
        for (here, one), (there, other) in itertools.product(enumerate(listed), repeat=2):
            if call(one, other) is not (here < there):
                self.fail(f"{call.__name__}({one!r}, {other!r}) is not {here < there}")


class ValueBeforeTest(ListedTestCase):
    def test_of_all_listed_values_those_ahead_come_before(self):
        self.assert_order_is_that_of(value_before, VALUES)

    def test_the_less_number(self):
        self.assertIs(value_before(9, 10), True)
        self.assertIs(value_before(10, 9), False)
        self.assertIs(value_before(-10, -9), True)
        self.assertIs(value_before(SIXTY_FIGURES - 1, SIXTY_FIGURES), True)
        self.assertIs(value_before(-SIXTY_FIGURES, SIXTY_FIGURES), True)

    def test_a_number_before_a_word(self):
        for number in NUMBERS:
            for word in WORDS:
                self.assertIs(value_before(number, word), True)
                self.assertIs(value_before(word, number), False)

    def test_words(self):
        for one, other in [("abc", "bbc"), ("abc", "acc"), ("abc", "abd"), ("a9", "aa"), ("a", "ab"), ("a9z", "aa0"),
                           ("abc", "abcd"), ("a" * 11, "a" * 12), ("a10", "a9"), ("a" * 12, "b")]:
            with self.subTest(one=one, other=other):
                self.assertIs(value_before(one, other), True)
                self.assertIs(value_before(other, one), False)

    def test_each_sign_before_the_next_one(self):
        self.assert_order_is_that_of(value_before, ["a" + sign for sign in "0123456789abcdefghijklmnopqrstuvwxyz"])
        self.assert_order_is_that_of(value_before, list("abcdefghijklmnopqrstuvwxyz"))

    def test_nothing_before_itself(self):
        for value in VALUES:
            self.assertIs(value_before(value, value), False)


class RowBeforeTest(ListedTestCase):
    def test_of_all_listed_rows_those_ahead_come_before(self):
        self.assert_order_is_that_of(row_before, ROWS)

    def test_rows_of_one_value_are_in_order_like_their_values(self):
        self.assert_order_is_that_of(row_before, [(value,) for value in VALUES])

    def test_the_last_of_four_values(self):
        self.assert_order_is_that_of(row_before, [("a", 1, "b", value) for value in VALUES])

    def test_the_first_unlike_place_tells(self):
        self.assertIs(row_before((1, "z", "z"), (2, 0, 0)), True)
        self.assertIs(row_before((2, 0, 0), (1, "z", "z")), False)
        self.assertIs(row_before((1, 2, 9, 0), (1, 3)), True)
        self.assertIs(row_before((1, 3), (1, 2, 9, 0)), False)
        self.assertIs(row_before((5,), ("a",)), True)

    def test_the_begin_comes_before_the_longer_row(self):
        self.assertIs(row_before((), (0,)), True)
        self.assertIs(row_before((0,), ()), False)
        self.assertIs(row_before(("a", 1), ("a", 1, -5)), True)
        self.assertIs(row_before(("a", 1, -5), ("a", 1)), False)

    def test_nothing_before_itself(self):
        for row in ROWS:
            self.assertIs(row_before(row, tuple(list(row))), False)

    def test_tuples_of_many_names(self):
        many = tuple(["b"] * 299)
        self.assertIs(row_before(many + ("a",), many + ("b",)), True)
        self.assertIs(row_before(many + ("b",), many + ("a",)), False)
        self.assertIs(row_before(many, many + ("a",)), True)


class InOrderTest(unittest.TestCase, HandedOver):
    def test_no_rows(self):
        self.assertEqual(in_order([]), [])

    def test_any_order_comes_out_the_same(self):
        for step in (1, 2, 3, 5, 7, 11, 13):
            shuffled = [ROWS[(place * step) % len(ROWS)] for place in range(len(ROWS))]
            self.assertEqual(in_order(shuffled), ROWS)
        self.assertEqual(in_order(ROWS[::-1]), ROWS)

    def test_each_once(self):
        self.assertEqual(in_order([(1,), (1,)]), [(1,)])
        self.assertEqual(in_order([(), (), ()]), [()])
        self.assertEqual(in_order([("b",), (2,), ("b",), (), (2,), (2,), ()]), [(), (2,), ("b",)])
        self.assertEqual(in_order(ROWS + ROWS[::-1] + ROWS), ROWS)

    def test_all_orders_of_a_few_rows(self):
        few = [(), (10,), ("a",), ("a", 1)]
        for rows in itertools.product(few, repeat=5):
            self.assertEqual(in_order(list(rows)), [row for row in few if row in rows])

    def test_three_hundred_rows(self):
        rows = [(number % 7, "w" + str(number)) for number in range(300)]
        told = in_order(rows)
        self.assertEqual(len(told), 300)
        for one, other in zip(told, told[1:]):
            self.assertTrue(row_before(one, other))

    def test_the_list_is_the_askers_own(self):
        for rows, expected in [([], []), ([(1,)], [(1,)]), ([(1,), (2,)], [(1,), (2,)]),
                               ([("a",), (2,), (2,)], [(2,), ("a",)])]:
            with self.subTest(rows=rows):
                self.assert_own_answer(in_order, lambda: (list(rows),), expected)


class PairsInOrderTest(unittest.TestCase):
    PAIRS = [("a", ()), ("a", (2,)), ("a", (10,)), ("a", ("a",)), ("a", ("a", 1)), ("a1", (0,)), ("aa", ()),
             ("b", (-1,)), ("b", (1, 2)), ("b", (1, 10)), ("b10", ()), ("b9", ())]

    def test_by_the_table_then_by_the_row(self):
        for step in (1, 5, 7, 11):
            shuffled = [self.PAIRS[(place * step) % len(self.PAIRS)] for place in range(len(self.PAIRS))]
            self.assertEqual(pairs_in_order(shuffled), self.PAIRS)
            self.assertEqual(pairs_in_order(dict.fromkeys(shuffled)), self.PAIRS)
        self.assertEqual(pairs_in_order({}), [])


if __name__ == "__main__":
    unittest.main()
