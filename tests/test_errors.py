import unittest

from whyrows.errors import NoFact, NoName, NoRounds, NoRule, NoText, NoWorth, TooMuch, WhyError

REFUSALS = [NoName, NoFact, NoRule, NoRounds, NoWorth, NoText, TooMuch]


class ErrorsTest(unittest.TestCase):
    def test_any_refusal_is_a_value_error(self):
        self.assertTrue(issubclass(WhyError, ValueError))

    def test_each_stands_under_why_error_and_value_error(self):
        for refusal in REFUSALS:
            with self.subTest(refusal=refusal.__name__):
                self.assertIsNot(refusal, WhyError)
                self.assertTrue(issubclass(refusal, WhyError))
                self.assertTrue(issubclass(refusal, ValueError))

    def test_none_stands_under_another(self):
        for one in REFUSALS:
            for other in REFUSALS:
                with self.subTest(one=one.__name__, other=other.__name__):
                    self.assertEqual(issubclass(one, other), one.__name__ == other.__name__)

    def test_each_has_its_name(self):
        names = [refusal.__name__ for refusal in REFUSALS]
        self.assertEqual(names, ["NoName", "NoFact", "NoRule", "NoRounds", "NoWorth", "NoText", "TooMuch"])

    def test_each_is_raised_with_words_and_taken_as_why_error(self):
        for refusal in [WhyError] + REFUSALS:
            with self.subTest(refusal=refusal.__name__):
                with self.assertRaises(WhyError) as caught:
                    raise refusal("some words")
                self.assertIs(caught.exception.__class__, refusal)
                self.assertEqual(str(caught.exception), "some words")


if __name__ == "__main__":
    unittest.main()
