import copy
import random
import unittest

import written
from helpers import FOUR_HUNDRED_FIGURES, SIXTY_FIGURES, HandedOver
from naive import some_runs
from whyrows.errors import NoText
from whyrows.whys import is_why
from whyrows.whytexts import read_why, show_why

MUCH = SIXTY_FIGURES
FIGURES = "9" * 60
WHYS = [
    ([], "0"), ([((), 1)], "1"), ([((), 7)], "7"), ([((), MUCH)], FIGURES), ([(("a",), 1)], "1 a"),
    ([(("a", "a", "b"), 2), (("c",), 1)], "2 a a b + 1 c"), ([((), 2), (("a",), 3)], "2 + 3 a"),
    ([(("a",) * 5, 10)], "10 a a a a a"), ([(("if",), 1), (("if", "if"), 2)], "1 if + 2 if if"),
    ([((), 10), (("a",), MUCH), (("a", "a"), 1), (("a10",), 1), (("a9",), 1), (("b",), 100)],
     f"10 + {FIGURES} a + 1 a a + 1 a10 + 1 a9 + 100 b"),
    ([(("a",) + ("b",) * 3 + ("z12345678901",), 5)], "5 a b b b z12345678901"),
]


class WhyTextTest(unittest.TestCase, HandedOver):
    def assert_refused(self, text):
        with self.subTest(text=repr(text)[:300]):
            handed = copy.deepcopy(text)
            with self.assertRaises(NoText) as caught:
                read_why(text)
            self.assertIs(caught.exception.__class__, NoText)
            self.assertEqual(text, handed)

    def test_written_and_read(self):
        for why, text in WHYS:
            with self.subTest(text=text):
                self.assert_own_answer(show_why, lambda: (copy.deepcopy(why),), text)
                self.assert_own_answer(read_why, lambda: (text,), why)
                self.assertEqual(repr(read_why(text)), repr(why))

    def test_ways_of_more_than_sixty_figures(self):
        for ways in [10 ** 60, 10 ** 61 - 1, FOUR_HUNDRED_FIGURES, 10 ** 3999]:
            figures = "".join(str(ways // 10 ** place % 10) for place in range(len(str(ways))))[::-1]
            for why, text in [([((), ways)], figures), ([(("a", "b"), ways)], figures + " a b"),
                              ([((), 1), (("a",), ways)], f"1 + {figures} a"),
                              ([(("a",), ways), (("b",), 2)], figures + " a + 2 b")]:
                self.assertEqual(show_why(why), text)
                self.assert_refused(text)

    def test_what_is_no_text(self):
        for thing in written.NO_TEXTS + [why for why, text in WHYS]:
            self.assert_refused(thing)

    def test_what_is_not_written_so(self):
        for text in [
            "", " ", "\n", "a", "A", "-", "+", " + ", "0 ", " 0", "00", "-0", "+0", "0\n", "0 a", "0 a + 1 b", "0 + 0",
            "0 + 1 a", "1 a + 0", "1 a + 0 b", "1 + 0", "-1", "-1 a", "1 a + -1 b", "+1", "+1 a", "01", "01 a",
            "1 a + 01 b", "1.0 a", "1_0 a", "1e1 a", "\uff11 a", "\u0663 a", "1\xb2 a", "\xb2 a", "1" * 61,
            "1" * 61 + " a", "1 a + " + "1" * 61, "1a", "1  a", "1 a  b", "1 a ", " 1 a", "1 a b ", "1\ta", "1 a\tb",
            "1\na", "1 a\n", "1\xa0a", "1 a\r\n", "1 a+1 b", "1 a +1 b", "1 a+ 1 b", "1 a  + 1 b", "1 a +  1 b",
            "1 a\t+ 1 b", "1 a +\n1 b", "1 a + ", " + 1 a", "1 a +", "+ 1 a", "1 a + + 1 b", "1 a ++ 1 b", "1 a + b",
            "1 a - 1 b", "1 a * 1 b", "1 a, 1 b", "1*a", "1 a*b", "1 A", "1 aB", "1 a B", "1 1", "1 1a", "1 a 1",
            "1 -a", "1 a_b", "1 " + "a" * 13, "1 a\xe9", "1 \u0430", "1 a\u0663", "a 1", "a", "a b", "a + b",
            "1 + 1 a + c", "()", "[]", "none", "1 (a)", "{a}", "2 a^2",
        ]:
            self.assertFalse(written.is_written(written.WHY, text), text)
            self.assert_refused(text)

    def test_what_does_not_stand_in_order(self):
        for text in [
            "1 b a", "1 a c b", "1 a b a", "1 a + 1 c b", "1 a10 a1", "1 a9 a10", "1 b + 1 a", "1 a a + 1 a", "1 a + 1",
            "1 a9 + 1 a10", "1 a b + 1 a a", "1 ab + 1 a b", "1 a + 1 c + 1 b", "1 b + 2 a + 1 c",
            "2 + 1 a + 1 a b + 1 a a", # A product twice, with the same ways and with others.
            "1 + 1", "1 + 2", "1 a + 1 a", "1 a + 2 a", "1 a a b + 3 a a b", "1 + 1 a + 1 a + 1 b", "1 a + 1 b + 1 a",
        ]:
            self.assertTrue(written.is_written(written.WHY, text), text)
            self.assert_refused(text)

    def assert_as_written(self, text):
        if written.is_written(written.WHY, text) and written.is_why_text(text):
            self.assertEqual(show_why(read_why(text)), text)
            self.assertTrue(is_why(read_why(text)))
            return True
        self.assert_refused(text)
        return False

    def test_one_sign_changed(self):
        let_by = 0
        for text in ["0", "1", "10 a", "2 a a b + 1 c", "7 + 1 if if + 30 z9", "1 a + 1 a a + 1 a b + 1 b",
                     "1 a b c d"]:
            for changed in written.one_sign_changed(text):
                let_by += self.assert_as_written(changed)
        self.assertGreater(let_by, 200)

    def test_drawn_texts(self):
        chance = random.Random(40)
        let_by = 0
        for step in range(40000):
            parts = chance.choices(["0", "1", "2", "10", " a", " b", " a", " b", " c", " + 1", " + 2", " + ", " ", "+",
                                    "a"],
                                   k=chance.randrange(1, 9))
            let_by += self.assert_as_written("".join(parts))
        self.assertGreater(let_by, 1000)

    def test_drawn_whys(self):
        chance = random.Random(41)
        for step in range(600):
            names = chance.choice([["a", "b", "if"], ["a1", "a10", "a9", "z", "b12345678901"]])
            drawn = [chance.choices(names, k=chance.randrange(6)) for number in range(chance.randrange(9))]
            products = {tuple(sorted(product)) for product in drawn}
            why = [(product, chance.choice([1, 2, 10, chance.randrange(1, MUCH)])) for product in sorted(products)]
            self.assertEqual(repr(read_why(show_why(why))), repr(why))
            self.assertTrue(written.is_written(written.WHY, show_why(why)))

    def test_whys_of_runs(self):
        seen = 0
        for facts, rules, rounds, expected in some_runs(41, 60):
            for table, row, why in expected[-1] if expected else []:
                self.assertEqual(read_why(show_why(why)), why)
                seen += 1
        self.assertGreater(seen, 100)

    def test_a_long_why(self):
        why = [(("a" + str(number).rjust(3, "0"),) * 2, number + 1) for number in range(200)]
        self.assertEqual(read_why(show_why(why)), why)


if __name__ == "__main__":
    unittest.main()
