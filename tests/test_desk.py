import copy
import itertools
import random
import unittest

import written
from helpers import SIXTY_FIGURES, within
from naive import close_rule, in_naive_order, is_variable, naive_changed, naive_whys_or_none, some_rule
from whyrows.desk import Desk
from whyrows.errors import NoName, NoRounds, NoRule, NoText, TooMuch, WhyError

MUCH = SIXTY_FIGURES
QUESTIONS = ["why", "ways", "cost", "agree", "stop"]
PLACES = ["p()", "p(1)", "p(2)", "p(3)", "p(a)", "p(1, 2)", "q()", "q(1)", "q(2)", "q(3)", "r()", "r(1)", "r(1, 2)",
          "s()", "edge(1, 2)", "edge(2, 3)", "edge(1, 3)", "way(1, 2)", "way(1, 3)", "way(2, 3)", "if()"]
ASKED = [f"{table}({terms})" for table in ("p", "q", "r", "s", "edge", "way", "if") for terms in
         ("", "X", "X, Y", "X, X", "1, X", "X, Y, Z", "X, Y, Z, W")]
WAYS = ["rule way(X, Y) if edge(X, Y)", "rule way(X, Z) if edge(X, Y); way(Y, Z); X != Z"]
EDGES = ["fact a: edge(1, 2)", "fact b: edge(2, 3)", "fact c: edge(1, 3)"]


def answer_of(desk, row):
    """The answer, or the class of the refusal."""
    try:
        return desk.say(row)
    except WhyError as refusal:
        return refusal.__class__


def all_answers(desk):
    """What a desk answers to all that can be asked without telling it anything."""
    rows = [word + " " + place for word in QUESTIONS for place in PLACES] + ["rows " + atom for atom in ASKED]
    return [(row, answer_of(desk, row)) for row in rows]


def desk_told(rounds, rows):
    desk = Desk(rounds)
    for row in rows:
        desk.say(row)
    return desk


class DeskTestCase(unittest.TestCase):
    def assert_answers(self, desk, rows):
        for row, answer in rows:
            with self.subTest(row=row):
                told = desk.say(row)
                self.assertEqual(told, answer)
                self.assertIs(told.__class__, str)

    def assert_refused(self, desk, error, row):
        with self.subTest(row=repr(row)[:200]):
            before, handed = all_answers(desk), copy.deepcopy(row)
            with self.assertRaises(error) as caught:
                desk.say(row)
            self.assertIs(caught.exception.__class__, error)
            self.assertEqual(row, handed)
            self.assertEqual(all_answers(desk), before)


class RoundsTest(DeskTestCase):
    def test_no_rounds(self):
        for rounds in [True, False, None, -1, 6, MUCH, -MUCH, "1", "", "a", [], [1], (), (1,)]:
            with self.subTest(rounds=rounds):
                with self.assertRaises(NoRounds) as caught:
                    Desk(rounds)
                self.assertIs(caught.exception.__class__, NoRounds)

    def test_so_many_rounds(self):
        chain = ["rule p(2) if p(1)", "rule p(3) if p(2)", "rule p(4) if p(3)", "rule p(5) if p(4)",
                 "rule p(6) if p(5)", "rule p(7) if p(6)", "fact a: p(1)"]
        for rounds in range(6):
            desk = desk_told(rounds, chain)
            rows = " ".join(f"({number})" for number in range(1, rounds + 2))
            self.assert_answers(desk, [("rows p(X)", rows), ("drop a", f"{rounds + 1} changed"), ("rows p(X)", "none")])

    def test_of_a_new_desk(self):
        for rounds in (0, 5):
            desk = Desk(rounds)
            for row, answer in all_answers(desk):
                word = row.partition(" ")[0]
                expected = {"why": "0", "ways": "0", "cost": "never", "agree": "none", "stop": "{}",
                            "rows": "none"}[word]
                self.assertEqual(answer, expected, row)


class OrdinaryTest(DeskTestCase):
    def test_a_row_of_rows(self):
        self.assert_answers(Desk(3), [
            ("rule way(X, Y) if edge(X, Y)", "ok"), ("rule way(X, Z) if edge(X, Y); way(Y, Z); X != Z", "ok"),
            ("fact a: edge(1, 2)", "2 changed"), ("fact b: edge(2, 3)", "3 changed"),
            ("fact c: edge(1, 3)", "2 changed"), ("rows way(X, Y)", "(1, 2) (1, 3) (2, 3)"),
            ("rows way(1, X)", "(1, 2) (1, 3)"), ("rows way(X, X)", "none"), ("why way(1, 3)", "1 a b + 1 c"),
            ("ways way(1, 3)", "2"), ("cost way(1, 3)", "1"), ("price c 5", "2 again"), ("cost way(1, 3)", "2"),
            ("price a -4", "3 again"), ("cost way(1, 3)", "-3"), ("agree way(1, 3)", "{a b} {c}"),
            ("stop way(1, 3)", "{a c} {b c}"), ("move c: edge(3, 1)", "6 changed"), ("why way(1, 3)", "1 a b"),
            ("rows way(X, Y)", "(1, 2) (1, 3) (2, 1) (2, 3) (3, 1) (3, 2)"), ("why way(2, 1)", "1 b c"),
            ("drop b", "4 changed"), ("why way(1, 3)", "0"), ("cost way(1, 3)", "never"), ("agree way(1, 3)", "none"),
            ("stop way(1, 3)", "{}"), ("cost way(3, 2)", "1"), ("rows edge(X, Y)", "(1, 2) (3, 1)"),
        ])

    def test_facts_moves_and_drops(self):
        self.assert_answers(Desk(1), [
            ("fact a: p(1)", "1 changed"), ("fact b: p(1)", "1 changed"), ("why p(1)", "1 a + 1 b"),
            ("move a: p(1)", "0 changed"), ("move a: p(2)", "2 changed"), ("why p(1)", "1 b"), ("why p(2)", "1 a"),
            ("move a: q()", "2 changed"), ("rows p(X)", "(1)"), ("rows q()", "()"), ("drop b", "1 changed"),
            ("rows p(X)", "none"), ("fact b: q()", "1 changed"), ("why q()", "1 a + 1 b"), ("drop a", "1 changed"),
            ("fact a: if(if, -7, 0)", "1 changed"), ("rows if(X, Y, Z)", "(if, -7, 0)"), ("why if(if, -7, 0)", "1 a"),
            ("fact if: if(if)", "1 changed"), ("why if(if)", "1 if"), ("drop if", "1 changed"), ("why if(if)", "0"),
            (f"fact a1: p({MUCH}, -{MUCH})", "1 changed"), ("rows p(X, Y)", f"({MUCH}, -{MUCH})"),
        ])

    def test_a_deed_that_changes_no_why(self):
        desk = desk_told(2, ["rule q(X) if p(X)", "fact a: p(1)"])
        self.assert_answers(desk, [("move a: p(1)", "0 changed"), ("why q(1)", "1 a"), ("cost q(1)", "1")])

    def test_rules_go_behind_the_others(self):
        desk = desk_told(3, ["fact a: p(1)"])
        self.assert_answers(desk, [
            ("rule q(X) if p(X)", "ok"), ("why q(1)", "1 a"), ("cost q(1)", "1"), ("rule q(X) if p(X)", "ok"),
            ("why q(1)", "2 a"), ("ways q(1)", "2"), ("rule r() if q(X); q(Y)", "ok"), ("why r()", "4 a a"),
            ("cost r()", "2"), ("agree r()", "{a}"), ("rule p(2)", "ok"), ("why p(2)", "1"), ("cost p(2)", "0"),
            ("agree p(2)", "{}"), ("stop p(2)", "none"), ("why r()", "4 + 8 a + 4 a a"), ("cost r()", "0"),
            ("rule p(3) if 1 = 2", "ok"), ("rows p(X)", "(1) (2)"), ("rule p(4) if p(2); a != b", "ok"),
            ("why p(4)", "1"),
        ])

    def test_rules_with_if(self):
        desk = desk_told(2, ["rule if(if) if if(if, if); if = if", "rule if() if if(if)"])
        self.assert_answers(desk, [("fact if: if(if, if)", "3 changed"), ("why if()", "1 if"), ("agree if()", "{if}"),
                                   ("rows if(X)", "(if)"), ("price if 7", "3 again"), ("cost if()", "7")])

    def test_rows(self):
        desk = desk_told(0, ["fact a: p()", "fact b: p(10)", "fact c: p(9)", "fact d: p(b)", "fact e: p(a10, 1)",
                             "fact f: p(a9, a9)", "fact g: p(-1, -1, 2)", "fact h: p(1, 2, 1, 2)", "fact i: q(1)",
                             "fact j: p(9)", "fact k: p(-10)"])
        self.assert_answers(desk, [
            ("rows p()", "()"), ("rows p(X)", "(-10) (9) (10) (b)"), ("rows p(X, Y)", "(a10, 1) (a9, a9)"),
            ("rows p(X, X)", "(a9, a9)"), ("rows p(X, X, Y)", "(-1, -1, 2)"), ("rows p(X, Y, X)", "none"),
            ("rows p(X, Y, X, Y)", "(1, 2, 1, 2)"), ("rows p(X, X, Y, Y)", "none"), ("rows p(9)", "(9)"),
            ("rows p(8)", "none"), ("rows p(X, 1)", "(a10, 1)"), ("rows p(a9, X)", "(a9, a9)"), ("rows q(X)", "(1)"),
            ("rows q()", "none"), ("rows r()", "none"), ("rows r(X)", "none"), ("rows p(Xa, Xb)", "(a10, 1) (a9, a9)"),
        ])

    def test_ways_of_many_figures(self):
        desk = desk_told(4, ["rule p() if p(); p(); p()"] * 30)
        trees = 1
        for number in range(4):
            trees = 1 + 30 * trees ** 3
        with within(30):
            # The most factors of a product are three to the fourth.
            self.assert_answers(desk, [
                ("fact a: p()", "1 changed"), (f"price a {MUCH}", "1 again"), ("cost p()", str(MUCH)),
                (f"price a -{MUCH}", "1 again"), ("cost p()", str(-MUCH * 81)), ("ways p()", str(trees)),
                ("agree p()", "{a}"), ("stop p()", "{a}"),
            ])
        self.assertEqual(len(desk.say("why p()").split(" + ")), 41)

    def test_agree_and_stop(self):
        desk = desk_told(2, ["rule q() if p(X); r(X)", "rule q() if s()", "fact a: p(1)", "fact b: r(1)",
                             "fact c: p(2)", "fact d: r(2)", "fact e: s()", "fact f: s()"])
        self.assert_answers(desk, [
            ("agree q()", "{a b} {c d} {e} {f}"), ("stop q()", "{a c e f} {a d e f} {b c e f} {b d e f}"),
            ("agree p(1)", "{a}"), ("stop p(1)", "{a}"), ("agree s()", "{e} {f}"), ("stop s()", "{e f}"),
            ("move b: r(3)", "3 changed"), ("agree q()", "{c d} {e} {f}"), ("stop q()", "{c e f} {d e f}"),
            ("agree p(7)", "none"), ("stop p(7)", "{}"),
        ])


class PriceTest(DeskTestCase):
    def test_the_price_that_was_never_told(self):
        desk = desk_told(1, ["rule r() if p(); q()", "fact a: p()", "fact b: q()"])
        self.assert_answers(desk, [("cost p()", "1"), ("cost r()", "2"), ("price a 1", "2 again"), ("cost r()", "2"),
                                   ("price b 0", "2 again"), ("cost r()", "1"), ("cost q()", "0")])

    def test_ahead_of_its_fact(self):
        desk = desk_told(1, ["rule r() if p(); p()"])
        self.assert_answers(desk, [("price a 7", "0 again"), ("price a 8", "0 again"), ("fact a: p()", "2 changed"),
                                   ("cost p()", "8"), ("cost r()", "16"), ("price a -1", "2 again"),
                                   ("cost r()", "-2")])

    def test_of_a_name_that_no_fact_has(self):
        desk = desk_told(1, ["fact a: p()"])
        self.assert_answers(desk, [("price b 7", "0 again"), ("price p 7", "0 again"), ("price if 7", "0 again"),
                                   ("cost p()", "1"), ("price a 7", "1 again"), ("cost p()", "7")])

    def test_prices_stay_when_facts_go(self):
        desk = desk_told(1, ["rule r() if p()", "fact a: p()", "price a 7"])
        self.assert_answers(desk, [
            ("drop a", "2 changed"), ("cost p()", "never"), ("price a 9", "0 again"), ("fact a: q()", "1 changed"),
            ("cost q()", "9"), ("move a: p()", "3 changed"), ("cost r()", "9"), ("drop a", "2 changed"),
            ("fact a: p()", "2 changed"), ("cost p()", "9"), ("cost r()", "9"), ("drop a", "2 changed"),
            ("fact b: p()", "2 changed"), ("cost p()", "1"), ("fact a: p()", "2 changed"), ("cost p()", "1"),
            ("drop b", "2 changed"), ("cost p()", "9"),
        ])

    def test_the_first_price_stays_no_price_told(self):
        # A name that never was told a price has the price 1 also when its fact went and came, and a price told while
        # no fact has the name is its price then.
        desk = desk_told(1, ["fact a: p()", "drop a"])
        self.assert_answers(desk, [("fact a: p()", "1 changed"), ("cost p()", "1"), ("drop a", "1 changed"),
                                   ("price a 4", "0 again"), ("fact a: p()", "1 changed"), ("cost p()", "4")])

    def test_prices_stay_when_a_rule_comes(self):
        desk = desk_told(2, ["fact a: p()", "price a 7", "price b -3", "fact c: p(1)"])
        self.assert_answers(desk, [("rule q() if p()", "ok"), ("cost p()", "7"), ("cost q()", "7"), ("cost p(1)", "1"),
                                   ("rule r() if q(); p(X)", "ok"), ("cost r()", "8"), ("fact b: q()", "2 changed"),
                                   ("cost q()", "-3"), ("cost r()", "-2"), ("price a -9", "3 again"),
                                   ("cost r()", "-8")])

    def test_which_pairs_bear_it(self):
        desk = desk_told(2, ["rule q() if p(X)", "rule r(X) if p(X); q()", "fact a: p(1)", "fact b: p(2)",
                             "fact c: s()"])
        self.assert_answers(desk, [("price a 2", "4 again"), ("price b 2", "4 again"), ("price c 2", "1 again"),
                                   ("price d 2", "0 again"), ("drop b", "4 changed"), ("price b 2", "0 again"),
                                   ("price a 2", "3 again"), ("move a: s()", "4 changed"), ("price a 3", "1 again"),
                                   ("cost s()", "2"), ("price c 9", "1 again"), ("cost s()", "3")])

    def test_numbers(self):
        desk = desk_told(1, ["fact a: p()"])
        for text in ["0", "-1", "10", "9" * 60, "-" + "9" * 60]:
            self.assert_answers(desk, [("price a " + text, "1 again"), ("cost p()", text)])

    def test_refused(self):
        desk = desk_told(1, ["fact a: p()", "price a 7"])
        for row in ["price", "price ", "price a", "price a ", "price  a 1", "price a  1", "price a 1 ", "price a 1 1",
                    " price a 1", "price A 1", "price 1 a", "price 1 1", "price a 01", "price a -0", "price a 00",
                    "price a +1", "price a 1.0", "price a none", "price a never", "price a b", "price a: 1",
                    "price a=1", "price a,1", "price a\t1", "price\ta 1", "price a 1\n", "price a " + "9" * 61,
                    "price " + "a" * 13 + " 1", "price a \uff11", "price a \xb2", "Price a 1", "price \xe9 1",
                    "price a X", "price p() 1", "price a -"]:
            self.assert_refused(desk, NoText, row)
        self.assert_answers(desk, [("cost p()", "7")])


class RefusedTest(DeskTestCase):
    def test_what_is_no_text(self):
        desk = desk_told(3, WAYS + EDGES)
        for thing in written.NO_TEXTS + [["rows", "p()"], ("rows p()",), [["rows p()"]]]:
            self.assert_refused(desk, NoText, thing)

    def test_rows_that_are_none(self):
        desk = desk_told(3, WAYS + EDGES)
        words = ["rule", "fact", "move", "drop", "price", "rows"] + QUESTIONS
        for row in ["", " ", "  ", "\n", "a", "edge(1, 2)", "a: edge(1, 2)", "0", "ok", "tell p()", "put a: p()",
                    "cheapest p()", "trail ", "told ", "say p()", "if p()", "row p()", "rowss p()", "rows(p())",
                    "rows:p()", "whys p()", "costs p()", "agrees p()", "stops p()", "facts ", "rules ", "none ",
                    " drop a", "dropa", "Drop a", "DROP a", "drop\ta", "drop\na", "drop\xa0a", "drop:a", "_drop a",
                    "drops a", "dro a", "quit ", "help "]:
            self.assert_refused(desk, NoText, row)
        for word in words:
            for row in [word, " " + word, word.upper() + " p()", word.title() + " p()", " " + word + " p()",
                        "\t" + word + " p()"]:
                self.assert_refused(desk, NoText, row)
            if word != "drop":
                for row in [word + " ", word + "  ", word + "  p()", word + " p() ", word + "\tp()", word + " p()\n",
                            word + "\np()", word + " \np()", word + " p() p()", word + " p(01)",
                            word + " p(a" + "a" * 12 + ")"]:
                    self.assert_refused(desk, NoText, row)

    def test_rules(self):
        desk = desk_told(3, WAYS + EDGES)
        for text in ["", "p() if ", "p() if", "p(X) if q(X) ", "p() if q(); 1 = 1; r()", "p() if 1 > 0",
                     "p(1, 2, 3, 4, 5)", "p() if q(),r()", "p() if q(-0)", "p", "n: p()",
                     "p() if " + "; ".join(["q(X)"] * 4) + ";"]:
            self.assert_refused(desk, NoText, "rule " + text)
        for text in ["p(X)", "p(X) if q()", "p() if q(); X = 1", "p() if " + "; ".join(["q()"] * 4),
                     "p() if " + "; ".join(["1 = 1"] * 4)]:
            self.assert_refused(desk, NoRule, "rule " + text)

    def test_facts_and_moves(self):
        desk = desk_told(3, WAYS + EDGES)
        for text in ["", "a", "edge(1, 2)", "a:edge(1, 2)", "d: edge(1, X)", "d: edge(1,2)", "d: edge(01)", "D: edge()",
                     "d: edge(1, 2, 3, 4, 5)", " d: edge(1)", "d: edge(1) ", "d: edge(1)\n", "d: edge",
                     "d: edge() if p()"]:
            self.assert_refused(desk, NoText, "fact " + text)
            self.assert_refused(desk, NoText, "move " + text)
        for text in ["a: edge(1, 2)", "b: p()", "c: edge(7, 8)"]:
            self.assert_refused(desk, NoName, "fact " + text)
        for text in ["d: edge(1, 2)", "edge: edge(1, 2)", "if: p()", "aa: edge(1, 2)"]:
            self.assert_refused(desk, NoName, "move " + text)

    def test_drops(self):
        desk = desk_told(3, WAYS + EDGES)
        for name in ["", " ", "d", "edge", " a", "a ", "a b", "a\n", "A", "1", "\xe9", "aa", "edge(1, 2)",
                     "a: edge(1, 2)", "  ", "a" * 13, "a" * 2000, "\ud800", "None", "(1, 2)"]:
            self.assert_refused(desk, NoName, "drop " + name)
        self.assert_answers(desk, [("drop a", "3 changed")])
        self.assert_refused(desk, NoName, "drop a")

    def test_questions(self):
        desk = desk_told(3, WAYS + EDGES)
        for word in QUESTIONS:
            for text in ["", "p", "p(X)", "edge(1, X)", "edge(X, Y)", "edge(Xa, 2)", "edge(1,2)", "edge(1, 2) ",
                         " edge(1, 2)", "edge(1, 2)\n", "edge(1, 2, 3, 4, 5)", "a: edge(1, 2)", "edge(01, 2)",
                         "Edge(1, 2)", "edge(1, 2", "(1, 2)", "edge(1, 2); edge(2, 3)", "edge(" + "1" * 61 + ")"]:
                self.assert_refused(desk, NoText, word + " " + text)
        for text in ["", "p", "edge(1,X)", "edge(X, Y) ", " edge(X, Y)", "edge(1, 2, 3, 4, 5)", "a: edge(1, 2)",
                     "edge(X", "edge(X, Y); X = Y", "edge(XY)", "edge(1 X)", "edge(X, Y)\n"]:
            self.assert_refused(desk, NoText, "rows " + text)

    def test_several_faults_at_once(self):
        full = desk_told(1, [f"fact n{number}: p({number})" for number in range(60)])
        # The text ahead of the name, the name ahead of what is too much.
        self.assert_refused(full, NoText, "fact n1: q(X)")
        self.assert_refused(full, NoText, "fact n1: q() ")
        self.assert_refused(full, NoText, "move z: q(X)")
        self.assert_refused(full, NoName, "fact n1: q()")
        self.assert_refused(full, NoName, "move z: q()")
        self.assert_refused(full, TooMuch, "fact z: q()")
        # Then the rule, then what is too much.
        self.assert_refused(full, NoText, "rule q(Y) if p(X); X > 1")
        self.assert_refused(full, NoText, "rule q(Y) if p(01)")
        self.assert_refused(full, NoRule, "rule q(Y) if p(X)")
        self.assert_refused(full, TooMuch, "rule q(X) if p(X)")
        # An atom with a variable is amiss in its text, however many words there would be to stop.
        self.assert_refused(full, NoText, "stop p(X)")

    def test_what_is_refused_sets_no_price(self):
        desk = desk_told(1, [f"fact n{number}: p({number})" for number in range(60)])
        self.assert_refused(desk, TooMuch, "fact z: q()")
        self.assert_answers(desk, [("price z 5", "0 again"), ("drop n0", "1 changed"), ("fact z: q()", "1 changed"),
                                   ("cost q()", "5")])


class TooMuchTest(DeskTestCase):
    def test_a_rule(self):
        desk = desk_told(1, [f"fact n{number}: p({number})" for number in range(30)] + ["rule q(X) if p(X)"])
        self.assert_refused(desk, TooMuch, "rule r()")
        self.assert_refused(desk, TooMuch, "rule r() if p(3)")
        self.assert_refused(desk, TooMuch, "rule p(X, Y) if p(X); p(Y)")
        self.assert_answers(desk, [("rule p(3) if p(4)", "ok"), ("why p(3)", "1 n3 + 1 n4"), ("drop n7", "2 changed")])
        # Taken once a fact is dropped; and a rule that was refused stands nowhere.
        self.assert_answers(desk, [("rule r() if p(3)", "ok"), ("why r()", "1 n3"), ("rows r()", "()"),
                                   ("cost r()", "1"), ("rule s() if p(3); r()", "ok"), ("why s()", "0"),
                                   ("rule r(1)", "ok"), ("why r(1)", "1")])
        self.assert_refused(desk, TooMuch, "rule r(2)")
        self.assert_refused(desk, TooMuch, "rule r(2) if p(3)")
        self.assert_answers(desk, [("drop n9", "2 changed"), ("rule r(2)", "ok"), ("why r(2)", "1"),
                                   ("why r()", "1 n3")])

    def test_products_of_a_rule(self):
        desk = desk_told(1, [f"fact n{number}: p()" for number in range(10)])
        # Ten names have fifty-five products of two.
        self.assert_refused(desk, TooMuch, "rule q() if p(); p()")
        self.assert_answers(desk, [("drop n0", "1 changed"), ("rule q() if p(); p()", "ok"), ("ways q()", "81")])
        self.assert_refused(desk, TooMuch, "fact n0: p()")
        self.assert_refused(desk, TooMuch, "rule q() if p(); p(); p()")
        self.assert_answers(desk, [("ways q()", "81"), ("fact n0: r()", "1 changed")])
        self.assert_refused(desk, TooMuch, "move n0: p()")
        self.assert_answers(desk, [("move n0: r(1)", "2 changed"), ("why r(1)", "1 n0"), ("drop n1", "2 changed"),
                                   ("move n0: p()", "3 changed"), ("ways q()", "81")])

    def test_a_fact_and_a_move(self):
        desk = desk_told(1, [f"fact n{number}: p({number})" for number in range(60)])
        self.assert_refused(desk, TooMuch, "fact z: p(60)")
        self.assert_answers(desk, [("fact z: p(7)", "1 changed"), ("why p(7)", "1 n7 + 1 z")])
        self.assert_refused(desk, TooMuch, "move z: p(60)")
        self.assert_answers(desk, [("move n0: p(60)", "2 changed"), ("rows p(0)", "none"),
                                   ("move z: p(8)", "2 changed"), ("drop n1", "1 changed"),
                                   ("move z: p(61)", "2 changed"), ("cost p(61)", "1")])

    def test_stop_with_eight_and_nine_words(self):
        names = "abcdefghi"
        desk = desk_told(2, [f"fact {name}: p()" for name in names[:8]])
        self.assert_answers(desk, [("stop p()", "{a b c d e f g h}"), ("fact i: p()", "1 changed")])
        self.assert_refused(desk, TooMuch, "stop p()")
        self.assert_answers(desk, [("agree p()", "{a} {b} {c} {d} {e} {f} {g} {h} {i}"), ("drop a", "1 changed"),
                                   ("stop p()", "{b c d e f g h i}")])

    def test_stop_counts_the_words_of_the_least_sets(self):
        # Ten names in the why, one in its least sets.
        desk = desk_told(2, [f"fact {name}: p()" for name in "abcdefghi"] + ["fact z: r()", "rule q() if r(); p()"])
        self.assert_refused(desk, TooMuch, "stop q()")
        self.assert_answers(desk, [("rule q() if r()", "ok"), ("ways q()", "10"), ("agree q()", "{z}"),
                                   ("stop q()", "{z}")])
        # Words that stand in several sets count once: five and three of them, fifteen sets.
        desk = desk_told(2, [f"fact {name}: p()" for name in "abcde"] + [f"fact {name}: r()" for name in "xyz"]
                         + ["rule q() if r(); p()"])
        self.assert_answers(desk, [("ways q()", "15"), ("stop q()", "{a b c d e} {x y z}"),
                                   ("fact f: p()", "2 changed")])
        self.assert_refused(desk, TooMuch, "stop q()")

    def test_given_up_without_long_waiting(self):
        desk = desk_told(5, [f"fact n{number}: p({number})" for number in range(51)])
        with within(60):
            for row in ["rule t(X, Y, Z) if p(X); p(Y); p(Z)", "rule t() if p(X); p(Y); p(Z)", "rule t() if p(X)",
                        "rule p(X, Y) if p(X); p(Y)", "rule t(X) if p(X); p(Y); p(Z)"]:
                self.assert_refused(desk, TooMuch, row)
                self.assert_refused(desk, TooMuch, row)
            self.assert_answers(desk, [("rule t() if q(); p(X); p(Y)", "ok"),
                                       ("rule t(X, Y) if r(); p(X); p(Y)", "ok")])
            for row in ["fact z: q()", "fact z: r()", "move n1: q()", "move n1: r()"]:
                self.assert_refused(desk, TooMuch, row)


class OwnAnswersTest(DeskTestCase):
    def test_two_desks_side_by_side(self):
        one, other = desk_told(3, WAYS + EDGES), desk_told(3, WAYS + EDGES)
        for first, second in [(one, other), (other, one)]:
            before = all_answers(second)
            for row in ["price a 7", "price z 3", "drop b", "rule q(X) if edge(X, Y)", "fact d: p(1)",
                        "move a: edge(2, 3)", "rule p()"]:
                first.say(row)
                self.assertEqual(all_answers(second), before)
        self.assertEqual(all_answers(one), all_answers(other))
        new = Desk(3)
        self.assert_answers(new, [("rows edge(X, Y)", "none"), ("fact a: edge(1, 2)", "1 changed"),
                                  ("cost edge(1, 2)", "1"), ("fact z: p()", "1 changed"), ("cost p()", "1")])

    def test_asking_changes_nothing(self):
        desk = desk_told(3, WAYS + EDGES + ["price a 7"])
        before = all_answers(desk)
        for number in range(3):
            self.assertEqual(all_answers(desk), before)
        self.assert_answers(desk, [("drop b", "3 changed"), ("fact b: edge(2, 3)", "3 changed")])
        self.assertEqual(all_answers(desk), before)


def written_atom(atom):
    return atom[0] + "(" + ", ".join(map(str, atom[1])) + ")"


def written_rule(rule):
    parts = [written_atom(atom) for atom in rule[1]] + [f"{one} {sign} {other}" for sign, one, other in rule[2]]
    return written_atom(rule[0]) + (" if " if parts else "") + "; ".join(parts)


def written_why(why):
    return " + ".join(" ".join((str(ways),) + product) for product, ways in why) or "0"


def naive_least(sets):
    return {one for one in sets if not any(other < one for other in sets)}


def written_sets(sets):
    return " ".join("{" + " ".join(words) + "}" for words in sorted(tuple(sorted(one)) for one in sets)) or "none"


def naive_stoppers(sets):
    words = sorted(set().union(*sets))
    tried = [frozenset(some) for many in range(len(words) + 1) for some in itertools.combinations(words, many)]
    return naive_least([some for some in tried if all(some & one for one in sets)])


class Model:
    """What a desk should answer: all is run anew, by tests/naive.py, whenever something is told."""

    def __init__(self, rounds):
        self.rounds, self.rules, self.facts, self.prices, self.whys = rounds, [], {}, {}, {}

    def run_anew(self, facts, rules):
        """The pairs whose why changed, or None where the run is refused."""
        told = naive_whys_or_none(list(facts.values()), rules, self.rounds)
        if told is None:
            return None
        whys = {(table, row): why for table, row, why in told[-1]}
        changed = naive_changed(set(whys) | set(self.whys), whys, self.whys)
        self.facts, self.rules, self.whys = facts, rules, whys
        return changed

    def deed(self, word, fact):
        if (fact[0] in self.facts) == (word == "fact"):
            return NoName
        facts = {name: other for name, other in self.facts.items() if name != fact[0]}
        if word != "drop":
            facts[fact[0]] = fact
        changed = self.run_anew(facts, self.rules)
        return TooMuch if changed is None else f"{len(changed)} changed"

    def answer(self, word, thing):
        if word == "rule":
            return TooMuch if self.run_anew(self.facts, self.rules + [thing]) is None else "ok"
        if word in ("fact", "move", "drop"):
            return self.deed(word, thing)
        if word == "price":
            self.prices[thing[0]] = thing[1]
            bearing = [pair for pair, why in self.whys.items() if any(thing[0] in product for product, ways in why)]
            return f"{len(bearing)} again"
        if word == "rows":
            rows = [row for table, row in in_naive_order(self.whys) if table == thing[0]]
            return " ".join(written_atom(("", row)) for row in rows if self.matches(thing[1], row)) or "none"
        return self.told_of(word, self.whys.get(thing, []))

    def matches(self, terms, row):
        bound = {}
        as_bound = [bound.setdefault(term, value) if is_variable(term) else term for term, value in zip(terms, row)]
        return len(terms) == len(row) and tuple(as_bound) == row

    def told_of(self, word, why):
        sets = naive_least({frozenset(product) for product, ways in why})
        if word == "why":
            return written_why(why)
        if word == "ways":
            return str(sum(ways for product, ways in why))
        if word == "cost":
            costs = [sum(self.prices.get(name, 1) for name in product) for product, ways in why]
            return str(min(costs)) if costs else "never"
        if word == "agree":
            return written_sets(sets)
        return written_sets(naive_stoppers(sets)) if len(set().union(*sets)) <= 8 else TooMuch


def drawn_row(chance, wide):
    """A row that is written as it should be: its text, its word, and its thing."""
    values = [1, 2, "a"] if wide else [1, 2]
    told = ["rule"] * 2 + ["fact"] * 4 + ["move"] * 2 + ["drop"] + ["price"] * 2
    word = chance.choice(told + ["rows"] + QUESTIONS)
    row = tuple(chance.choices(values, k=chance.randrange(3) if wide else 1))
    table = chance.choice(["p", "q", "r", "s"] if wide else ["p", "q"])
    name = chance.choice("abcdefghij")
    if word == "rule":
        thing = some_rule(chance, ["p", "q", "r", "s"], values, 2) if wide else close_rule(chance)
        return "rule " + written_rule(thing), word, thing
    if word in ("fact", "move"):
        return f"{word} {name}: " + written_atom((table, row)), word, (name, table, row)
    if word == "drop":
        return "drop " + name, word, (name,)
    if word == "price":
        number = chance.choice([-3, 0, 1, 2, 5, 10, MUCH, -MUCH])
        return f"price {name} {number}", word, (name, number)
    if word == "rows":
        row = tuple(chance.choices(values + ["X", "Y", "X"], k=len(row)))
    return word + " " + written_atom((table, row)), word, (table, row)


def spoilt_row(chance, text):
    """A row that is refused with NoText."""
    word, blank, rest = text.partition(" ")
    spoilt = [" " + text, word, word.upper() + " " + rest, word + "s " + rest, word + rest, word + "\t" + rest]
    # Any text is a name that may be dropped.
    if word != "drop":
        spoilt += [text + " ", word + "  " + rest, text + "\n", text[:-1] + "?", word + " "]
    return chance.choice(spoilt)


class ManyTest(DeskTestCase):
    def assert_all_as_in(self, desk, model, wide):
        tables, rows = ("pqrs", [(), (1,), (2,), ("a",), (1, 2), ("a", 1)]) if wide else ("pq", [(1,), (2,), (3,)])
        for table in tables:
            for row in rows:
                for word in QUESTIONS:
                    text = word + " " + written_atom((table, row))
                    self.assertEqual(answer_of(desk, text), model.answer(word, (table, row)), text)
            for terms in [(), ("X",), ("X", "Y"), ("X", "X")]:
                self.assertEqual(desk.say("rows " + written_atom((table, terms))), model.answer("rows", (table, terms)))

    def test_drawn_rows(self):
        """Points 3 and 39: each answer is what a new run of whys over the facts that stand tells."""
        chance = random.Random(42)
        seen = {}
        for step in range(150):
            wide, rounds = step % 2 == 0, chance.choice([0, 1, 2, 2, 3, 3, 4])
            desk, model = Desk(rounds), Model(rounds)
            for number in range(30):
                text, word, thing = drawn_row(chance, wide)
                if word == "rule" and len(model.rules) >= 4:
                    continue
                if chance.randrange(8) == 0:
                    self.assertIs(answer_of(desk, spoilt_row(chance, text)), NoText)
                expected = model.answer(word, thing)
                self.assertEqual(answer_of(desk, text), expected, text)
                seen[(word, expected if expected.__class__ is type else "")] = True
                if word in ("rule", "fact", "move", "drop", "price"):
                    self.assert_all_as_in(desk, model, wide)
        for word, refusals in [("rule", [TooMuch]), ("fact", [NoName, TooMuch]), ("move", [NoName, TooMuch]),
                               ("drop", [NoName]), ("price", []), ("rows", []), ("stop", [])]:
            for refusal in refusals + [""]:
                self.assertIn((word, refusal), seen)

    def test_stoppers_of_drawn_facts(self):
        chance = random.Random(43)
        too_much, told = 0, 0
        for step in range(60):
            desk, model = Desk(2), Model(2)
            rules = [(("q", ()), (("p", (number,)), ("r", (number,))), ()) for number in (1, 2, 3)]
            rules.append((("q", ()), (("p", ("X",)), ("r", ("Y",)), ("s", ())), ()))
            rows = [("rule " + written_rule(rule), "rule", rule) for rule in rules]
            for name in "abcdefghij"[:chance.randrange(5, 11)]:
                fact = (name, chance.choice("prs"), (chance.choice([1, 2, 3]),))
                fact = (name, "s", ()) if fact[1] == "s" else fact
                rows.append((f"fact {name}: " + written_atom(fact[1:]), "fact", fact))
            for text, word, thing in rows:
                self.assertEqual(answer_of(desk, text), model.answer(word, thing))
            for word in QUESTIONS:
                self.assertEqual(answer_of(desk, word + " q()"), model.answer(word, ("q", ())))
            too_much += model.answer("stop", ("q", ())) is TooMuch
            told += model.answer("stop", ("q", ())) is not TooMuch
        self.assertGreater(too_much, 5)
        self.assertGreater(told, 20)


if __name__ == "__main__":
    unittest.main()
