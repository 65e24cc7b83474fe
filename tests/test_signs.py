import unittest

import written
from whyrows.errors import NoText
from whyrows.signs import read_number, read_term, read_word


class SignsTest(unittest.TestCase):
    def assert_read(self, read, pattern, text):
        with self.subTest(read=read.__name__, text=text):
            if written.is_written(pattern, text):
                self.assertEqual(str(read(text)), text)
            else:
                with self.assertRaises(NoText):
                    read(text)

    def test_each_kind(self):
        for text in ["", "0", "7", "-7", "10", "-0", "00", "01", "-01", "+1", "-", "--1", "1" * 60, "1" * 61,
                     "-" + "9" * 60, "-" + "9" * 61, "0" * 61, "a", "X", "if", "a" * 12, "a" * 13, "X" + "a" * 11,
                     "X" + "a" * 12, "aB", "1a", " ", "a ", " 1", "1\n"]:
            self.assert_read(read_number, written.NUMBER, text)
            self.assert_read(read_word, written.WORD, text)
            self.assert_read(read_term, written.TERM, text)

    def test_one_sign_changed(self):
        for text in ["0", "-10", "7", "ab", "Xy", "1" * 60, "a" * 12, "X" + "1" * 11]:
            for changed in written.one_sign_changed(text):
                self.assert_read(read_number, written.NUMBER, changed)
                self.assert_read(read_word, written.WORD, changed)
                self.assert_read(read_term, written.TERM, changed)

    def test_numbers_are_whole(self):
        for text, number in [("0", 0), ("-1", -1), ("9" * 60, 10 ** 60 - 1), ("-" + "9" * 60, 1 - 10 ** 60)]:
            self.assertEqual(repr(read_number(text)), repr(number))
            self.assertEqual(repr(read_term(text)), repr(number))


if __name__ == "__main__":
    unittest.main()
