import copy
import random
import unittest

from helpers import SIXTY_FIGURES, HandedOver
from naive import is_variable, some_rule
from whyrows.errors import TooMuch
from whyrows.reckonings import Bests, Costs, Counts, Hands, Trusts, Truths
from whyrows.runs import run
from whyrows.telling import asked, settled
from whyrows.whyruns import why_run

MUCH = SIXTY_FIGURES
# What is told behind one round, rows of several lengths and tables among it; the worths tell which row it was.
BEHIND = [
    ("p", (), 1), ("p", (1,), 2), ("p", (1, 1), 3), ("p", (1, 2), 4), ("p", (1, 2, 1), 5), ("p", (1, 2, 2, 1), 6),
    ("p", (2, 2), 7), ("p", (2, "a"), 8), ("p", ("a",), 9), ("p", ("a", 1), 10), ("p", ("a", "a"), 11),
    ("p2", (1,), 12), ("q", (-MUCH,), 13), ("q", (9,), 14), ("q", (10,), 15), ("q", (MUCH,), 16), ("q", ("a10",), 17),
    ("q", ("a9",), 18), ("zero", (), 19),
]
STEP = (("way", ("X", "Y")), (("edge", ("X", "Y")),), ())
LONGER = (("way", ("X", "Z")), (("edge", ("X", "Y")), ("way", ("Y", "Z"))), ())
EDGES = [("a", "edge", (1, 2)), ("b", "edge", (2, 3)), ("c", "edge", (3, 4)), ("d", "edge", (1, 2))]
ODD_ATOMS = [("p", ()), ("p", ("X",)), ("p", ("X", "Y")), ("p", ("X", "X")), ("q", ("X",)), ("none", ("X",))]


class AskedTest(unittest.TestCase, HandedOver):
    def assert_asked(self, told, atom, expected):
        with self.subTest(told=repr(told)[:200], atom=atom):
            self.assert_own_answer(asked, lambda: (copy.deepcopy(told), atom), expected)
            self.assertIs(asked(told, atom).__class__, list)
            for part in asked(told, atom):
                self.assertIs(part.__class__, tuple)

    def assert_worths(self, atom, expected):
        by_worth = {worth: row for table, row, worth in BEHIND}
        self.assert_asked(BEHIND, atom, [(by_worth[worth], worth) for worth in expected])

    def test_another_table(self):
        for table in ("none", "pp", "p1", "x", "zer", "edge"):
            for terms in [(), (1,), ("X",), ("X", "Y"), ("X", "Y", "Z", "W")]:
                self.assert_worths((table, terms), [])
        self.assert_worths(("p2", (1,)), [12])
        self.assert_worths(("p2", ("X",)), [12])
        self.assert_worths(("q", ("X", "Y")), [])

    def test_no_terms(self):
        self.assert_worths(("p", ()), [1])
        self.assert_worths(("zero", ()), [19])
        self.assert_worths(("q", ()), [])

    def test_values_alone(self):
        self.assert_worths(("p", (1,)), [2])
        self.assert_worths(("p", ("a",)), [9])
        self.assert_worths(("p", (2,)), [])
        self.assert_worths(("p", (1, 2)), [4])
        self.assert_worths(("p", (2, 1)), [])
        self.assert_worths(("p", ("a", 1)), [10])
        self.assert_worths(("p", (1, 2, 2, 1)), [6])
        self.assert_worths(("q", (MUCH,)), [16])
        self.assert_worths(("q", (-MUCH,)), [13])
        self.assert_worths(("q", (MUCH - 1,)), [])
        self.assert_worths(("q", ("a10",)), [17])

    def test_variables(self):
        self.assert_worths(("p", ("X",)), [2, 9])
        self.assert_worths(("p", ("X", "Y")), [3, 4, 7, 8, 10, 11])
        self.assert_worths(("p", ("X", "Y", "Z")), [5])
        self.assert_worths(("p", ("X", "Y", "Z", "W")), [6])
        self.assert_worths(("q", ("X",)), [13, 14, 15, 16, 17, 18])
        self.assert_worths(("p", ("X", 2)), [4, 7])
        self.assert_worths(("p", (1, "Y")), [3, 4])
        self.assert_worths(("p", ("Y", "a")), [8, 11])
        self.assert_worths(("p", ("X", 2, "Y")), [5])
        self.assert_worths(("p", ("X", 3, "Y")), [])

    def test_one_variable_at_two_places(self):
        self.assert_worths(("p", ("X", "X")), [3, 7, 11])
        self.assert_worths(("p", ("X", "Y", "X")), [5])
        self.assert_worths(("p", ("X", "X", "Y")), [])
        self.assert_worths(("p", ("X", "Y", "Y", "X")), [6])
        self.assert_worths(("p", ("X", "Y", "X", "Y")), [])
        self.assert_worths(("p", ("X", 2, 2, "X")), [6])

    def test_of_an_empty_list(self):
        for atom in ODD_ATOMS:
            self.assert_asked([], atom, [])

    def test_the_order_is_kept(self):
        for atom in ODD_ATOMS:
            rows = [row for row, worth in asked(BEHIND, atom)]
            self.assertEqual(rows, [row for table, row, worth in BEHIND if row in rows and table == atom[0]])
            # What is asked stands in order, however the rows stood that were handed in.
            self.assert_asked(BEHIND[::-1], atom, asked(BEHIND, atom))
            self.assert_asked(BEHIND[7:] + BEHIND[:7], atom, asked(BEHIND, atom))

    def test_each_kind_of_worth(self):
        for worth in [0, -5, MUCH, None, True, False, [], [0], [-1, 2, 2], [()], [("x",), ("y", "z")], [((), 1)],
                      [((), 2), (("a", "a"), MUCH)]]:
            self.assert_asked([("p", (1,), worth), ("q", (1,), worth)], ("p", ("X",)), [((1,), worth)])
            self.assert_asked([("p", (1,), worth), ("p", (2,), worth)], ("p", ("X",)), [((1,), worth), ((2,), worth)])

    def test_one_list_at_two_places_of_what_is_handed_in(self):
        same = [(("a",), 1)]
        told = [("p", (1,), same), ("p", (2,), same), ("q", (), same)]
        found = asked(told, ("p", ("X",)))
        found[0][1].append("spoilt")
        self.assertEqual(found[1], ((2,), [(("a",), 1)]))
        self.assertEqual(same, [(("a",), 1)])
        same.clear()
        self.assertEqual(found[1], ((2,), [(("a",), 1)]))

    def test_of_a_run_of_worths(self):
        for by, worth, twice in [(Counts(), 3, 6), (Costs(), 4, 4), (Bests(), [1, 2], [1, 1, 2]), (Trusts(), 50, 50),
                                 (Truths(), True, True), (Hands(), [("x",), ("y",)], [("x",), ("y",)])]:
            told = run(EDGES, [STEP], 1, by, dict.fromkeys("abcd", worth))
            self.assert_asked(told[0], ("way", ("X", "Y")), [])
            self.assert_asked(told[1], ("way", ("X", "Y")), [((1, 2), twice), ((2, 3), worth), ((3, 4), worth)])
            self.assert_asked(told[1], ("edge", (2, "Y")), [((2, 3), worth)])

    def test_of_a_run_of_whys(self):
        told = why_run(EDGES, [STEP, LONGER], 3)
        self.assert_asked(told[3], ("way", (1, "X")), [
            ((1, 2), [(("a",), 1), (("d",), 1)]), ((1, 3), [(("a", "b"), 1), (("b", "d"), 1)]),
            ((1, 4), [(("a", "b", "c"), 1), (("b", "c", "d"), 1)])])
        self.assert_asked(told[2], ("way", (1, "X")), [
            ((1, 2), [(("a",), 1), (("d",), 1)]), ((1, 3), [(("a", "b"), 1), (("b", "d"), 1)])])
        self.assert_asked(told[0], ("way", (1, "X")), [])
        self.assert_asked(told[3], ("way", ("X", "X")), [])

    def test_atoms_of_all_sorts(self):
        chance = random.Random(26)
        values = [1, 2, "a"]
        for step in range(400):
            atom = some_rule(chance, ["p", "q"], values, 4)[1][:1]
            if atom == ():
                continue
            table, terms = atom[0]
            expected = []
            for other_table, row, worth in BEHIND:
                places = range(len(terms))
                fits = table == other_table and len(terms) == len(row)
                if fits and all(row[k] == terms[k] for k in places if not is_variable(terms[k])) and all(
                        row[j] == row[k] for j in places for k in places if terms[j] == terms[k]):
                    expected.append((row, worth))
            self.assert_asked(BEHIND, atom[0], expected)


class SettledTest(unittest.TestCase, HandedOver):
    def assert_settled(self, told, expected):
        with self.subTest(told=repr(told)[:200]):
            self.assert_own_answer(settled, lambda: (copy.deepcopy(told),), expected)
            self.assertIs(settled(told).__class__, expected.__class__)

    def test_a_run_of_one_round_alone(self):
        self.assert_settled([[]], None)
        self.assert_settled([BEHIND], None)
        self.assert_settled(why_run(EDGES, [STEP], 0), None)
        self.assert_settled(run(EDGES, [STEP], 0, Truths(), dict.fromkeys("abcd", True)), None)

    def test_at_round_0(self):
        self.assert_settled([[], []], 0)
        self.assert_settled([BEHIND] * 6, 0)
        for rounds in range(1, 6):
            self.assert_settled(why_run([], [], rounds), 0)
            self.assert_settled(why_run(EDGES, [], rounds), 0)
            self.assert_settled(why_run([], [STEP, LONGER], rounds), 0)

    def test_later(self):
        told = why_run(EDGES, [STEP, LONGER], 5)
        self.assert_settled(told, 3)
        for rounds in range(6):
            self.assert_settled(why_run(EDGES, [STEP, LONGER], rounds), 3 if rounds > 3 else None)
        for late in range(5):
            rules = [(("q" + str(n + 1), ()), (("q" + str(n), ()),), ()) for n in range(late)]
            self.assert_settled(why_run([("a", "q0", ())], rules, 5), late)

    def test_never_within_its_rounds(self):
        rounded = [("a", "edge", (1, 2)), ("b", "edge", (2, 1))]
        for rounds in range(6):
            self.assert_settled(why_run(rounded, [STEP, LONGER], rounds), None)
        self.assert_settled(run(rounded, [STEP, LONGER], 5, Counts(), {"a": 1, "b": 1}), None)

    def test_the_worths_count_as_the_rows_do(self):
        # The rows of the net stay from round 2 on, the least costs too; whys and counts grow on.
        rounded = [("a", "edge", (1, 2)), ("b", "edge", (2, 1))]
        rows = [[row[:2] for row in behind] for behind in why_run(rounded, [STEP, LONGER], 5)]
        self.assert_settled(rows, 2)
        self.assert_settled(run(rounded, [STEP, LONGER], 5, Costs(), {"a": 1, "b": 1}), 2)
        self.assert_settled(run(rounded, [STEP, LONGER], 5, Trusts(), {"a": 9, "b": 7}), 2)
        # With costs below 0 a longer way is always a better one.
        self.assert_settled(run(rounded, [STEP, LONGER], 5, Costs(), {"a": -1, "b": -1}), None)

    def test_the_first_of_several(self):
        one, other = [("p", (1,), 1)], [("p", (1,), 2)]
        self.assert_settled([one, other, other, one, one], 1)
        self.assert_settled([one, one, other, other], 0)
        self.assert_settled([one, other, one, other], None)
        self.assert_settled([one, other, one, one], 2)

    def test_rounds_that_are_nearly_the_same(self):
        one = [("p", (1,), [(("a",), 1)])]
        for other in [[], one * 2, [("p", (1,), [(("a",), 2)])], [("p", (1,), [(("b",), 1)])], [("p", (1,), [])],
                      [("q", (1,), [(("a",), 1)])], [("p", (2,), [(("a",), 1)])], [("p", (), [(("a",), 1)])]]:
            self.assert_settled([one, other], None)
            self.assert_settled([one, other, other], 1)

    def test_runs_of_all_sorts(self):
        chance = random.Random(2)
        found = []
        for step in range(300):
            values = [1, 2]
            facts = [(name, chance.choice("pq"), tuple(chance.choices(values, k=chance.randrange(2))))
                     for name in "abcd"]
            rules = [some_rule(chance, ["p", "q"], values, 1) for number in range(3)]
            try:
                told = why_run(facts, rules, 4)
            except TooMuch:
                continue
            same = [number for number in range(4) if told[number] == told[number + 1]]
            self.assert_settled(told, same[0] if same else None)
            # What is settled stays so: each round is made of the round ahead alone.
            self.assertEqual(same, list(range(same[0], 4)) if same else [])
            found.append(settled(told))
        self.assertTrue({None, 0, 1, 2} <= set(found))


if __name__ == "__main__":
    unittest.main()
