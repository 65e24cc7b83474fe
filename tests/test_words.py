import copy
import unittest

from helpers import ODD_THINGS, SIXTY_FIGURES
from whyrows.words import is_row, is_value, is_var, is_whole, is_word

SMALL = "abcdefghijklmnopqrstuvwxyz"
CAPITAL = "ABCDEFGHIJKLMNOPQRSTUVWXYZ"
FIGURES = "0123456789"
ODD_SIGNS = [
    " ", "\t", "\n", "\r", "\x00", "\x7f", "-", "_", "+", ".", ",", "(", ")", "/", ":", "@", "[", "`", "{", "'",
    "A", "Q", "Z",
    "\xe9", "\xdf", "\xaa", "\xb5", "\u0131", "\u017f", "\u03b1", "\u0430", "\uff41",
    "\xb2", "\xb9", "\xbd", "\u0663", "\u0966", "\uff11", "\u2460", "\U0001d7d8",
    "\u0301", "\u200b", "\xa0", "\ud800", "\U0001f600",
]


class WordsTestCase(unittest.TestCase):
    def assert_told(self, truth, call, things):
        for thing in things:
            with self.subTest(call=call.__name__, thing=repr(thing)[:80]):
                before = copy.deepcopy(thing)
                self.assertIs(call(thing), truth)
                self.assertEqual(thing, before)


class WholeTest(WordsTestCase):
    def test_ints_are_whole(self):
        self.assert_told(True, is_whole, [0, 1, -1, 7, SIXTY_FIGURES, -SIXTY_FIGURES])

    def test_truths_are_not(self):
        self.assert_told(False, is_whole, [True, False])

    def test_other_things_are_not(self):
        self.assert_told(False, is_whole, ODD_THINGS + ["a", "A", "0", (), [], (0,), [0]])


class WordTest(WordsTestCase):
    def test_words(self):
        self.assert_told(True, is_word, ["a", "z", "edge", "a7", "z0", "if", "none", "a1b2c3", "abcdefghijkl",
                                         "a" + "9" * 11])

    def test_lengths(self):
        for length in range(20):
            with self.subTest(length=length):
                self.assertIs(is_word("a" * length), 1 <= length <= 12)

    def test_the_first_sign_is_a_small_letter(self):
        self.assert_told(True, is_word, [sign + "b1" for sign in SMALL])
        self.assert_told(False, is_word, [sign + "b1" for sign in CAPITAL + FIGURES])

    def test_further_signs_are_small_letters_and_figures(self):
        for place in range(1, 12):
            for sign in SMALL + FIGURES:
                self.assertIs(is_word("x" * place + sign + "y" * (11 - place)), True)

    def test_no_other_sign_at_any_place(self):
        for length in (1, 2, 3, 12):
            for place in range(length):
                text = "x" * place, "y" * (length - 1 - place)
                self.assert_told(False, is_word, [text[0] + sign + text[1] for sign in ODD_SIGNS])

    def test_all_signs_up_to_far_outside_ascii(self):
        for number in range(0x20000):
            sign = chr(number)
            if is_word(sign) != (sign in SMALL) or is_word("a" + sign) != (sign in SMALL + FIGURES):
                self.fail(repr(sign))

    def test_other_things_are_no_words(self):
        self.assert_told(False, is_word, ODD_THINGS + [0, 1, 5, (), [], "A", "Ab", ("a",), ["a"], ("a", "b")])


class VarTest(WordsTestCase):
    def test_variables(self):
        self.assert_told(True, is_var, ["X", "A", "Z", "Xy", "X1", "Row2b", "Xabcdefghijk", "X" + "0" * 11])

    def test_lengths(self):
        for length in range(20):
            with self.subTest(length=length):
                self.assertIs(is_var(("A" + "a" * 19)[:length]), 1 <= length <= 12)

    def test_the_first_sign_is_a_capital_letter(self):
        self.assert_told(True, is_var, [sign + "b1" for sign in CAPITAL])
        self.assert_told(False, is_var, [sign + "b1" for sign in SMALL + FIGURES])

    def test_further_signs_are_small_letters_and_figures(self):
        for place in range(1, 12):
            for sign in SMALL + FIGURES:
                self.assertIs(is_var("X" + "x" * (place - 1) + sign + "y" * (11 - place)), True)

    def test_no_other_sign_at_any_place(self):
        odd_at_first = [sign for sign in ODD_SIGNS if sign not in CAPITAL]
        self.assert_told(False, is_var, [sign + "ab" for sign in odd_at_first] + odd_at_first)
        for length in (2, 3, 12):
            for place in range(1, length):
                text = "X" + "x" * (place - 1), "y" * (length - 1 - place)
                self.assert_told(False, is_var, [text[0] + sign + text[1] for sign in ODD_SIGNS])

    def test_all_signs_up_to_far_outside_ascii(self):
        for number in range(0x20000):
            sign = chr(number)
            if is_var(sign) != (sign in CAPITAL) or is_var("A" + sign) != (sign in SMALL + FIGURES):
                self.fail(repr(sign))

    def test_other_things_are_no_variables(self):
        self.assert_told(False, is_var, ODD_THINGS + [0, 1, (), [], "a", "ab", ("X",), ["X"]])


class ValueTest(WordsTestCase):
    def test_whole_numbers_and_words_are_values(self):
        self.assert_told(True, is_value, [0, -1, 12, SIXTY_FIGURES, -SIXTY_FIGURES, "a", "b7", "abcdefghijkl"])

    def test_other_things_are_no_values(self):
        self.assert_told(False, is_value, ODD_THINGS + ["X", "Xy", "abcdefghijklm", "7a", "a-", (), [], (1,), ["a"]])


class RowTest(WordsTestCase):
    def test_rows(self):
        self.assert_told(True, is_row, [(), (0,), ("a",), (1, "b"), ("b", 1, -1), ("a", "a", "a", "a"),
                                        (SIXTY_FIGURES, -SIXTY_FIGURES, 0, "abcdefghijkl")])

    def test_lengths(self):
        for length in range(9):
            with self.subTest(length=length):
                self.assertIs(is_row((1, "a", 2, "b", 3, "c", 4, "d")[:length]), length <= 4)

    def test_a_list_is_no_row(self):
        self.assert_told(False, is_row, [[], [1], ["a"], [1, "b"], [1, 2, 3, 4]])

    def test_each_part_is_a_value_at_each_place(self):
        for part in [True, False, None, "X", "Xy", "", "7", "A b", "abcdefghijklm", (), (1,), [], ["a"], [1]]:
            for length in range(1, 5):
                for place in range(length):
                    row = [1, "a", 2, "b"][:length]
                    row[place] = part
                    self.assert_told(False, is_row, [tuple(row)])

    def test_other_things_are_no_rows(self):
        self.assert_told(False, is_row, ODD_THINGS + [0, 1, "a", "abc", "X"])


if __name__ == "__main__":
    unittest.main()
