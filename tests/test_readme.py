"""The example in README.md tells what it says it tells."""

import pathlib
import unittest

README = pathlib.Path(__file__).resolve().parent.parent / "README.md"


def told_and_expected(line, names):
    """What a line of the example comes to, and its remark: both None where it has no remark."""
    code, sign, remark = line.partition("#")
    exec(code, names)
    if not sign:
        return None, None
    given, equals, thing = code.partition(" = ")
    return eval(given.strip() if equals and given.isidentifier() else code.strip(), names), eval(remark.strip())


class ReadmeTest(unittest.TestCase):
    def test_the_example(self):
        example = README.read_text().partition("```python\n")[2].partition("```")[0]
        names = {}
        asked = 0
        for line in example.splitlines():
            told, expected = told_and_expected(line, names)
            with self.subTest(line=line):
                self.assertEqual(told, expected)
            asked += "#" in line
        self.assertGreater(asked, 20)


if __name__ == "__main__":
    unittest.main()
