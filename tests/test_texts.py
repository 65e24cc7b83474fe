import copy
import random
import unittest

import written
from helpers import FOUR_HUNDRED_FIGURES, SIXTY_FIGURES
from naive import some_rule
from whyrows.errors import NoRule, NoText
from whyrows.texts import read_atom, read_fact, read_rule, show_atom, show_fact, show_rule

MUCH = SIXTY_FIGURES
FIGURES = "9" * 60
LONG_WORD = "a23456789012"
LONG_VARIABLE = "A23456789012"
# Terms as they are, and as they are written.
TERMS = [(0, "0"), (7, "7"), (-7, "-7"), (10, "10"), (-10, "-10"), (100, "100"), (MUCH, FIGURES),
         (-MUCH, "-" + FIGURES), ("a", "a"), ("z9", "z9"), ("a10", "a10"), ("if", "if"), (LONG_WORD, LONG_WORD),
         ("X", "X"), ("Xif", "Xif"), ("Z0", "Z0"), (LONG_VARIABLE, LONG_VARIABLE)]
ATOMS = [
    (("open", ()), "open()"), (("edge", (1, "X")), "edge(1, X)"), (("if", ()), "if()"), (("if", ("if",)), "if(if)"),
    (("if", ("if", "if")), "if(if, if)"), (("p", (1,)), "p(1)"), (("p", (1, "b", "C")), "p(1, b, C)"),
    (("p", ("X", "X", -3, 0)), "p(X, X, -3, 0)"), (("p", (MUCH, -MUCH)), f"p({FIGURES}, -{FIGURES})"),
    ((LONG_WORD, (LONG_VARIABLE,)), f"{LONG_WORD}({LONG_VARIABLE})"),
]
FACTS = [
    (("a7", "edge", (1, "b")), "a7: edge(1, b)"), (("a", "p", ()), "a: p()"), (("if", "if", ("if",)), "if: if(if)"),
    (("a", "a", ("a", "a", "a", "a")), "a: a(a, a, a, a)"),
    ((LONG_WORD, LONG_WORD, (LONG_WORD,)), f"{LONG_WORD}: {LONG_WORD}({LONG_WORD})"),
    (("n", "p", (MUCH, -MUCH, 0)), f"n: p({FIGURES}, -{FIGURES}, 0)"),
]
X_IN_P = ("p", ("X",))
RULES = [
    ((("p", ()), (), ()), "p()"), ((("p", (1, "a")), (), ()), "p(1, a)"), ((("if", ("if",)), (), ()), "if(if)"),
    ((("way", ("X", "Z")), (("edge", ("X", "Y")), ("way", ("Y", "Z"))), (("!=", "X", "Z"),)),
     "way(X, Z) if edge(X, Y); way(Y, Z); X != Z"),
    ((("q", ()), (), (("=", 1, 1),)), "q() if 1 = 1"),
    ((("q", ()), (), (("<", 1, "a"), ("!=", -1, 0), ("=", "if", "if"))), "q() if 1 < a; -1 != 0; if = if"),
    ((("q", ()), (X_IN_P,), ()), "q() if p(X)"), ((("q", ("X",)), (X_IN_P,) * 3, ()), "q(X) if p(X); p(X); p(X)"),
    ((("q", ("X",)), (X_IN_P, ("p", ()), ("if", ("Y", 2))), (("=", "X", "Y"), ("<", "Y", MUCH), ("!=", "b", "X"))),
     f"q(X) if p(X); p(); if(Y, 2); X = Y; Y < {FIGURES}; b != X"),
    ((("if", ()), (("if", ()),), ()), "if() if if()"),
    ((("if", ("if",)), (("if", ("if", "if")),), (("=", "if", "if"),)), "if(if) if if(if, if); if = if"),
    ((("if", ()), (), (("<", "if", "if"),)), "if() if if < if"),
]


class TextTestCase(unittest.TestCase):
    def assert_refused(self, error, read, text):
        with self.subTest(read=read.__name__, text=repr(text)[:300]):
            handed = copy.deepcopy(text)
            with self.assertRaises(error) as caught:
                read(text)
            self.assertIs(caught.exception.__class__, error)
            self.assertEqual(text, handed)

    def assert_both_ways(self, show, read, pairs):
        for thing, text in pairs:
            with self.subTest(text=text):
                self.assertEqual(show(thing), text)
                self.assertIs(show(thing).__class__, str)
                # Also that 1 is read as a whole number, and a tuple as a tuple.
                self.assertEqual(repr(read(text)), repr(thing))
                self.assertEqual(show(read(text)), text)


class WrittenTest(TextTestCase):
    """Point 37, and that what is written is read to the same again."""

    def test_terms(self):
        for term, text in TERMS:
            self.assert_both_ways(show_atom, read_atom, [
                (("p", (term,)), f"p({text})"), (("p", (term, 1)), f"p({text}, 1)"),
                (("p", ("a", term)), f"p(a, {text})"), (("p", (term, term, term, term)),
                                                        f"p({text}, {text}, {text}, {text})")])
            if not text[0].isupper():
                self.assert_both_ways(show_fact, read_fact, [(("n", "p", (term, term)), f"n: p({text}, {text})")])
            for sign in ("=", "!=", "<"):
                self.assert_both_ways(show_rule, read_rule, [
                    ((("q", (term,)), (("p", (term, 1)),), ((sign, term, 2), (sign, "a", term), (sign, term, term))),
                     f"q({text}) if p({text}, 1); {text} {sign} 2; a {sign} {text}; {text} {sign} {text}")])

    def test_atoms(self):
        self.assert_both_ways(show_atom, read_atom, ATOMS)

    def test_facts(self):
        self.assert_both_ways(show_fact, read_fact, FACTS)

    def test_rules(self):
        self.assert_both_ways(show_rule, read_rule, RULES)

    def test_atoms_are_rules_without_a_body(self):
        for atom, text in ATOMS:
            if not written.variables_in_text(text):
                self.assert_both_ways(show_rule, read_rule, [((atom, (), ()), text)])
            self.assert_both_ways(show_rule, read_rule, [((("q", ()), (atom,), ()), "q() if " + text)])

    def test_numbers_of_more_than_sixty_figures(self):
        for number in [10 ** 60, -10 ** 60, 10 ** 61 - 1, FOUR_HUNDRED_FIGURES, -FOUR_HUNDRED_FIGURES, 10 ** 3999]:
            figures = "".join(str(abs(number) // 10 ** place % 10) for place in range(len(str(abs(number)))))[::-1]
            text = "-" + figures if number < 0 else figures
            for show, read, thing, expected in [
                (show_atom, read_atom, ("p", (number,)), f"p({text})"),
                (show_atom, read_atom, ("p", ("a", number)), f"p(a, {text})"),
                (show_fact, read_fact, ("n", "p", (number, 1)), f"n: p({text}, 1)"),
                (show_rule, read_rule, (("p", (number,)), (), ()), f"p({text})"),
                (show_rule, read_rule, (("p", ()), (("q", (number,)),), ()), f"p() if q({text})"),
                (show_rule, read_rule, (("p", ()), (), (("<", number, 1),)), f"p() if {text} < 1"),
                (show_rule, read_rule, (("p", ()), (), (("<", 1, number),)), f"p() if 1 < {text}"),
            ]:
                self.assertEqual(show(thing), expected)
                self.assert_refused(NoText, read, expected)

    def test_what_is_handed_in_stays(self):
        # Tuples, numbers and texts alone are handed in: nothing of them can be changed. So it is asked that two calls
        # tell the same, whatever was written and read between.
        for show, read, pairs in [(show_atom, read_atom, ATOMS), (show_fact, read_fact, FACTS),
                                  (show_rule, read_rule, RULES)]:
            first = [(show(thing), read(text)) for thing, text in pairs]
            self.assertEqual([(show(thing), read(text)) for thing, text in pairs[::-1]], first[::-1])

    def test_drawn_atoms_facts_and_rules(self):
        chance = random.Random(38)
        terms = [term for term, text in TERMS] + [chance.randrange(-10 ** 40, 10 ** 40) for number in range(20)]
        values = [term for term in terms if isinstance(term, int) or term[0].islower()]
        words = [value for value in values if isinstance(value, str)]
        for step in range(600):
            atom = (chance.choice(words), tuple(chance.choices(terms, k=chance.randrange(5))))
            self.assertEqual(repr(read_atom(show_atom(atom))), repr(atom))
            self.assertTrue(written.is_written(written.ATOM, show_atom(atom)))
            fact = (chance.choice(words), chance.choice(words), tuple(chance.choices(values, k=chance.randrange(5))))
            self.assertEqual(repr(read_fact(show_fact(fact))), repr(fact))
            self.assertTrue(written.is_written(written.FACT, show_fact(fact)))
            rule = some_rule(chance, words, values, 4)
            self.assertEqual(repr(read_rule(show_rule(rule))), repr(rule))
            self.assertTrue(written.is_written(written.RULE, show_rule(rule)))


class RefusedTest(TextTestCase):
    """Point 38."""

    def test_what_is_no_text(self):
        for read in (read_atom, read_fact, read_rule):
            for thing in written.NO_TEXTS:
                self.assert_refused(NoText, read, thing)

    def test_texts_of_other_kinds(self):
        for text in ["", " ", "a", "X", "1", "-1", "()", "(1, b)", "p", "p(", "p)", ")(", ":", ": ", ";", "if", " if ",
                     "\n"]:
            for read in (read_atom, read_fact, read_rule):
                self.assert_refused(NoText, read, text)
        for thing, text in ATOMS:
            self.assert_refused(NoText, read_fact, text)
        for thing, text in FACTS:
            self.assert_refused(NoText, read_atom, text)
            self.assert_refused(NoText, read_rule, text)
        for thing, text in RULES[3:]:
            self.assert_refused(NoText, read_atom, text)
            self.assert_refused(NoText, read_fact, text)

    def test_terms(self):
        for term in ["", "01", "-0", "00", "-01", "+1", "+0", "-", "--1", "-a", "-X", "1a", "1X", "1.0", "1_0", "1e1",
                     "0x1", " 1", "1 ", "aB", "XY", "aX", "Xy_", "_a", "a_b", "a b", "a.b", "a-b", "'a'", '"a"', "()",
                     "p()", "(a", "a)", "\xb2", "1\xb2", "\u0663", "\uff11", "a\u0663", "X\uff11", "\xe9", "a\xe9",
                     "\xc4", "X\xe4", "\u0430", "1" * 61, "-" + "1" * 61, "0" * 60, "a" * 13, "A" + "a" * 12, "True ",
                     "[]"]:
            for read, text in [
                (read_atom, f"p({term}, 2)"), (read_atom, f"p(2, {term})"), (read_fact, f"n: p({term}, 2)"),
                (read_fact, f"n: p(2, {term})"), (read_rule, f"p({term}, 2)"), (read_rule, f"p() if q({term}, 2)"),
                (read_rule, f"p() if {term} = 1"), (read_rule, f"p() if 1 = {term}"),
            ]:
                self.assert_refused(NoText, read, text)

    def test_names_and_tables(self):
        for word in ["", "1", "1a", "P", "Pa", "aB", "a_b", "-a", " a", "a ", "a" * 13, "\xe9", "a\u0663", "a\xb2",
                     "a:", "a\n"]:
            self.assert_refused(NoText, read_atom, f"{word}()")
            self.assert_refused(NoText, read_atom, f"{word}(1, X)")
            self.assert_refused(NoText, read_fact, f"{word}: p()")
            self.assert_refused(NoText, read_fact, f"n: {word}(1)")
            self.assert_refused(NoText, read_rule, f"{word}()")
            self.assert_refused(NoText, read_rule, f"p() if {word}()")
            self.assert_refused(NoText, read_rule, f"p() if q(); {word}(X)")

    def test_blanks(self):
        for text in ["p( )", "p(1,X)", "p(1,  X)", "p(1 , X)", "p( 1, X)", "p(1, X )", "p (1, X)", " p(1, X)",
                     "p(1, X) ", "p(1,\tX)", "p(1,\nX)", "p(1,\xa0X)", "p(1, X)\n", "\np(1, X)", "p(1, X)\t",
                     "p(1, X)\r\n", "p(1 X)", "p(1, )", "p(, 1)", "p(,)", "p(1,)", "p(1, , 2)", "p(1; 2)", "p[1]",
                     "p(1", "p1)", "p(1))", "p((1)"]:
            self.assert_refused(NoText, read_atom, text)
            self.assert_refused(NoText, read_fact, "n: " + text.replace("X", "2"))
            self.assert_refused(NoText, read_rule, text)
            self.assert_refused(NoText, read_rule, "q() if " + text)
            self.assert_refused(NoText, read_rule, "q() if r(); " + text + "; X = X")

    def test_facts(self):
        for text in ["n:p()", "n :p()", "n : p()", "n:  p()", "n:\tp()", "n;p()", "n p()", "n, p()", ": p()", "n: ",
                     "n:", "n", "n: n: p()", "n: p(): p()", "n: p(X)", "n: p(1, X)", "n: p(Xa, 1)",
                     "n: p(1, 2, 3, 4, 5)", "n: p() if q()", "n: p()\n", " n: p()", "n: p() ", "n: p", "n: p(n: p())",
                     "n=p()", "N: p()", "1: p()"]:
            self.assert_refused(NoText, read_fact, text)

    def test_five_terms(self):
        for terms in ["1, 2, 3, 4, 5", "a, a, a, a, a", "1, 2, 3, 4, 5, 6", "X, X, X, X, X", ", ".join(["1"] * 300)]:
            self.assert_refused(NoText, read_atom, f"p({terms})")
            self.assert_refused(NoText, read_fact, f"n: p({terms})")
            self.assert_refused(NoText, read_rule, f"p({terms})")
            self.assert_refused(NoText, read_rule, f"q() if p({terms})")
            self.assert_refused(NoText, read_rule, f"q() if p(X); p({terms}); X = 1")

    def test_rules(self):
        for text in [
            "p() if", "p() if ", "p() if  ", " if p()", "if p()", "p()if q()", "p() ifq()", "p()  if q()",
            "p() if  q()", "p()\tif q()", "p() if\tq()", "p()\nif q()", "p() if\nq()", "p() If q()", "p() IF q()",
            "p() :- q()", "p() q()", "p() if if", "p() if q() if r()", "p() if if q()", "p(); q()", "p() if q(),",
            "p() if q(), r()", "p() if q();r()", "p() if q() ; r()", "p() if q();  r()", "p() if q();", "p() if q(); ",
            "p() if ; q()", "p() if q(); ; r()", "p() if q();\tr()", "p() if q();\nr()", "p() if q() and r()",
            "p() if q() r()", "p() if q", "p() if 1", "p() if X", "p() if 1 = 1; q()", "p(X) if X = 1; q(X)",
            "p() if q(); 1 = 1; r()", "p() if 1 = 1;", "p() if 1 = 1; ", "p() if 1 == 1", "p() if 1 > 0",
            "p() if 1 <= 2", "p() if 1 >= 2", "p() if 1 <> 2", "p() if 1 =! 2", "p() if 1 ! 2", "p() if 1=1",
            "p() if 1 =1", "p() if 1= 1", "p() if 1  = 1", "p() if 1 =  1", "p() if 1 = 1 ", "p() if  1 = 1",
            "p() if 1\t=\t1", "p() if 1 = 1\n", "p() if 1 = 1 = 1", "p() if = 1", "p() if 1 =", "p() if 1 = ",
            "p() if  = 1", "p() if =", "p() if 1 = q()", "p() if q() = 1", "p() if (1 = 1)", "p() if 1 = (1)",
            "p() if 1 \uff1d 1", "q if p()", "p() if not q()", "n: p() if q()", "p() if n: q()", "1 = 1",
            "1 = 1 if p()", "X if p(X)", "p(a if b)", "p(a, if b)",
        ]:
            self.assertFalse(written.is_written(written.RULE, text), text)
            self.assert_refused(NoText, read_rule, text)

    def test_written_as_a_rule_but_none(self):
        four_atoms, four_choices = "; ".join(["p(X)"] * 4), "; ".join(["X = X"] * 4)
        for text in [
            "q() if " + four_atoms, "q(X) if " + four_atoms, "q() if p(); p(); p(); p()",
            "q() if " + four_atoms + "; X = X", "q() if p(X); " + four_choices, "q() if 1 = 1; 1 = 1; 1 = 1; 1 = 1",
            "q() if " + four_atoms + "; " + four_choices, "q() if " + "; ".join(["p()"] * 300),
            "q() if " + "; ".join(["1 < 2"] * 300), "q(X)", "q(1, a, Y)", "q(X) if p()", "q(X) if p(Y)",
            "q(X, Y) if p(X)", "q(X) if 1 = 1", "q(X) if X = 1", "q() if X = 1", "q() if 1 = X", "q() if p(Y); X = 1",
            "q() if p(Y); 1 != X", "q() if p(Y); Y = Y; Y < X", "q(Xa) if p(X)", "q(X) if p(Xa)", "q() if p(x); X = x",
            "if(If) if if(if)", "q(Y) if " + four_atoms, "q() if Y = Y; Y = Y; Y = Y; Y = Y",
        ]:
            self.assertTrue(written.is_written(written.RULE, text), text)
            self.assert_refused(NoRule, read_rule, text)

    def test_text_ahead_of_rule(self):
        # What isn't written as a rule stays NoText, whatever else is amiss.
        four_atoms = "; ".join(["p(X)"] * 4)
        for text in ["q(Y) if " + four_atoms + ";", "q(01) if " + four_atoms, "q() if " + four_atoms + "; 01 = 1",
                     "q() if p(1, 2, 3, 4, 5); " + four_atoms, "q() if " + four_atoms + "; p(1, 2, 3, 4, 5)",
                     "q() if " + four_atoms + "; X = 1; p()", "q(Y) if X => 1", "q(X)\n", "q(X) ", "q(X) if ",
                     "q(X) if p(Y) ", "q() if X = Y; " + "1" * 61 + " = 1", "q(X) if p(-0)", "q(X, 1, 2, 3, 4)",
                     "Q(X)"]:
            self.assert_refused(NoText, read_rule, text)

    def assert_as_written(self, show, read, pattern, text):
        if not written.is_written(pattern, text):
            self.assert_refused(NoText, read, text)
            return False
        if pattern == written.RULE and not written.is_rule_text(text):
            self.assert_refused(NoRule, read, text)
            return True
        self.assertEqual(show(read(text)), text)
        return True

    def test_one_sign_changed(self):
        let_by = 0
        for show, read, pattern, texts in [
            (show_atom, read_atom, written.ATOM, ["p()", "edge(1, X)", "if(-10, aZ, if)", "p(0, a, B, 1)"]),
            (show_fact, read_fact, written.FACT, ["a7: edge(1, b)", "n: p()", "if: if(if, -10, 0, 7)"]),
            (show_rule, read_rule, written.RULE, ["p(1)", "q() if 1 = 1; a < -2", "q(X) if p(X, 10); r(); X != Y",
                                                  "if(if) if if(if); if < if",
                                                  "q() if a(); b(Xy); c(); 1 = 1; a < b; 0 != Xy"]),
        ]:
            for text in texts:
                for changed in written.one_sign_changed(text):
                    let_by += self.assert_as_written(show, read, pattern, changed)
        self.assertGreater(let_by, 500)

    def test_drawn_texts(self):
        chance = random.Random(39)
        parts = ["p", "if", "X", "1", "0", "-", "(", ")", "()", ", ", ",", " ", " if ", "; ", ";", ": ", ":", " = ",
                 " != ", " < ", "p(X)", "q()", "q(1, X)", "X = 1", "1 < X", "a: ", "a: ", "n: q()"]
        found = {read_atom: 0, read_fact: 0, read_rule: 0}
        for step in range(60000):
            text = "".join(chance.choices(parts, k=chance.randrange(1, 8)))
            for show, read, pattern in [(show_atom, read_atom, written.ATOM), (show_fact, read_fact, written.FACT),
                                        (show_rule, read_rule, written.RULE)]:
                found[read] += self.assert_as_written(show, read, pattern, text)
        for read, many in found.items():
            self.assertGreater(many, 100, read.__name__)


if __name__ == "__main__":
    unittest.main()
