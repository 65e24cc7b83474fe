import copy
import itertools
import random
import unittest

from helpers import SIXTY_FIGURES, HandedOver, within
from naive import key_of_row, naive_instances, some_rule
from whyrows.joins import instances
from whyrows.matching import holds, matched
from whyrows.rules import is_rule

MUCH = SIXTY_FIGURES
EDGES = [(1, 2), (1, 3), (2, 3), (3, 1), (3, "a"), ("a", "a")]
# Rows of several lengths in one table.
MIXED = [(), (1,), (1, 1), (1, 2), (1, 2, 3), (2,), ("a",), ("a", "a", "a", "a")]
TABLES = {"edge": EDGES, "mixed": MIXED, "none": [], "one": [(3,)]}


class InstancesTestCase(unittest.TestCase, HandedOver):
    def assert_instances(self, rule, tables, expected):
        with self.subTest(rule=rule, tables=repr(tables)[:200]):
            self.assertTrue(is_rule(rule))
            self.assert_own_answer(instances, lambda: (rule, copy.deepcopy(tables)), expected)
            told = instances(rule, tables)
            self.assertIs(told.__class__, list)
            for instance in told:
                self.assertEqual([part.__class__ for part in instance], [tuple, tuple])
                self.assertTrue(all(row.__class__ is tuple for row in instance[1]))

    def assert_as_naive(self, rule, tables):
        self.assert_instances(rule, tables, naive_instances(rule, tables))


class BodiesTest(InstancesTestCase):
    def test_an_empty_body(self):
        for tables in ({}, TABLES):
            self.assert_instances((("p", ()), (), ()), tables, [((), ())])
            self.assert_instances((("p", (1, "a", MUCH)), (), ()), tables, [((1, "a", MUCH), ())])
            self.assert_instances((("edge", (1, 2)), (), ()), tables, [((1, 2), ())])

    def test_an_empty_body_with_choices(self):
        head = ("p", (1,))
        for tables in ({}, TABLES):
            self.assert_instances((head, (), (("=", 1, 1),)), tables, [((1,), ())])
            self.assert_instances((head, (), (("=", 1, 2),)), tables, [])
            self.assert_instances((head, (), (("<", 9, 10), ("<", 9, "a"), ("!=", "a", "b"))), tables, [((1,), ())])
            self.assert_instances((head, (), (("<", 9, 10), ("<", "a", 9), ("!=", "a", "b"))), tables, [])
            self.assert_instances((head, (), (("!=", "a", "a"), ("<", 9, 10))), tables, [])

    def test_one_atom(self):
        self.assert_instances((("p", ("Y", "X")), (("edge", ("X", "Y")),), ()), TABLES,
                              [((row[1], row[0]), (row,)) for row in EDGES])
        self.assert_instances((("p", ("Y",)), (("edge", (3, "Y")),), ()), TABLES,
                              [((1,), ((3, 1),)), (("a",), ((3, "a"),))])
        self.assert_instances((("p", ("X",)), (("edge", ("X", 3)),), ()), TABLES,
                              [((1,), ((1, 3),)), ((2,), ((2, 3),))])
        self.assert_instances((("p", ()), (("edge", (1, 2)),), ()), TABLES, [((), ((1, 2),))])
        self.assert_instances((("p", ()), (("edge", (2, 1)),), ()), TABLES, [])
        self.assert_instances((("p", ("X",)), (("edge", ("X", "X")),), ()), TABLES, [(("a",), (("a", "a"),))])

    def test_two_atoms(self):
        self.assert_instances((("p", ("X", "Z")), (("edge", ("X", "Y")), ("edge", ("Y", "Z"))), ()), TABLES, [
            ((1, 3), ((1, 2), (2, 3))), ((1, 1), ((1, 3), (3, 1))), ((1, "a"), ((1, 3), (3, "a"))),
            ((2, 1), ((2, 3), (3, 1))), ((2, "a"), ((2, 3), (3, "a"))), ((3, 2), ((3, 1), (1, 2))),
            ((3, 3), ((3, 1), (1, 3))), ((3, "a"), ((3, "a"), ("a", "a"))), (("a", "a"), (("a", "a"), ("a", "a"))),
        ])
        self.assert_instances((("p", ("Y",)), (("one", ("X",)), ("edge", ("X", "Y"))), ()), TABLES,
                              [((1,), ((3,), (3, 1))), (("a",), ((3,), (3, "a")))])
        self.assert_instances((("p", ("Y",)), (("edge", ("X", "Y")), ("one", ("X",))), ()), TABLES,
                              [((1,), ((3, 1), (3,))), (("a",), ((3, "a"), (3,)))])

    def test_three_atoms(self):
        rule = (("p", ("X", "Y", "Z")), (("edge", ("X", "Y")), ("edge", ("Y", "Z")), ("edge", ("Z", "X"))), ())
        self.assert_instances(rule, TABLES, [
            ((1, 2, 3), ((1, 2), (2, 3), (3, 1))), ((2, 3, 1), ((2, 3), (3, 1), (1, 2))),
            ((3, 1, 2), ((3, 1), (1, 2), (2, 3))), (("a", "a", "a"), (("a", "a"),) * 3),
        ])
        rule = (("p", ("W", "X")), (("edge", ("X", "Y")), ("one", ("Y",)), ("edge", ("Y", "W"))), ())
        self.assert_as_naive(rule, TABLES)

    def test_no_variable_in_common(self):
        small = {"p": [(1,), (2,)], "q": [("a",), ("b",), ("c",)]}
        self.assert_instances((("r", ("Y", "X")), (("p", ("X",)), ("q", ("Y",))), ()), small, [
            (("a", 1), ((1,), ("a",))), (("b", 1), ((1,), ("b",))), (("c", 1), ((1,), ("c",))),
            (("a", 2), ((2,), ("a",))), (("b", 2), ((2,), ("b",))), (("c", 2), ((2,), ("c",))),
        ])
        self.assertEqual(len(instances((("r", ()), (("p", ("X",)), ("q", ("Y",)), ("p", ("Z",))), ()), small)), 12)

    def test_the_same_table_several_times(self):
        small = {"p": [(1,), (2,)]}
        pairs = list(itertools.product([(1,), (2,)], repeat=2))
        self.assert_instances((("r", ()), (("p", ("X",)), ("p", ("Y",))), ()), small, [((), used) for used in pairs])
        self.assert_instances((("r", ()), (("p", ("X",)), ("p", ("X",))), ()), small,
                              [((), ((1,), (1,))), ((), ((2,), (2,)))])
        self.assert_instances((("p", ("X",)), (("p", ("X",)),) * 3, ()), small,
                              [((1,), ((1,),) * 3), ((2,), ((2,),) * 3)])

    def test_a_table_that_is_not_there_or_empty(self):
        for table in ("none", "nowhere"):
            for rule in [
                (("p", ("X",)), ((table, ("X",)),), ()), (("p", ()), ((table, ()),), ()),
                (("p", ("X",)), (("edge", ("X", "Y")), (table, ("Z",))), ()),
                (("p", ("X",)), ((table, ("Z",)), ("edge", ("X", "Y"))), ()),
                (("p", ("X",)), (("edge", ("X", "Y")), (table, ("Y",)), ("edge", ("Y", "X"))), ()),
            ]:
                self.assert_instances(rule, TABLES, [])
                self.assert_instances(rule, {}, [])

    def test_rows_of_other_lengths(self):
        for length in range(5):
            variables = ("A", "B", "C", "D")[:length]
            self.assert_instances((("p", variables), (("mixed", variables),), ()), TABLES,
                                  [(row, (row,)) for row in MIXED if len(row) == length])
        self.assert_instances((("p", ()), (("mixed", ()), ("edge", ())), ()), TABLES, [])
        rule = (("p", ("X", "Y")), (("mixed", ()), ("mixed", ("X",)), ("mixed", ("X", "Y"))), ())
        self.assert_instances(rule, TABLES, [((1, 1), ((), (1,), (1, 1))), ((1, 2), ((), (1,), (1, 2)))])
        self.assert_as_naive((("p", ("X",)), (("mixed", ("X", "X", "X", "X")), ("mixed", ("X",))), ()), TABLES)

    def test_a_variable_in_several_atoms_and_values(self):
        for body in [
            (("edge", ("X", "Y")), ("edge", ("Y", "X"))), (("edge", ("X", "X")), ("mixed", ("X",))),
            (("mixed", ("X",)), ("edge", ("X", "X"))), (("edge", ("X", 3)), ("edge", (3, "X"))),
            (("edge", (1, "X")), ("edge", ("X", "Y")), ("mixed", ("Y",))),
            (("mixed", (1, "X")), ("mixed", ("X",)), ("mixed", ("Y", "X", 3))), (("edge", ("X", "Y")), ("one", (3,))),
        ]:
            self.assert_as_naive((("p", ("X", 7)), body, ()), TABLES)

    def test_figures_and_words_are_no_variables(self):
        tables = {"p": [(0,), (1,), ("x",)], "q": [(0, 1), ("x", 0)]}
        self.assert_instances((("r", ("X",)), (("p", ("x",)), ("q", ("x", "X"))), ()), tables,
                              [((0,), (("x",), ("x", 0)))])
        self.assert_as_naive((("r", ("X", 0)), (("p", ("X",)), ("q", ("X", "Y")), ("p", ("Y",))), ()), tables)


class HeadsTest(InstancesTestCase):
    def test_heads(self):
        for terms in [(), (7,), ("X",), ("X", "X"), ("Y", "X", "Y", "X"), ("x", "X", -MUCH), (1, "a", 2, "b")]:
            self.assert_instances((("edge", terms), (("edge", ("X", "Y")),), ()), {"edge": [(1, 2), (2, "b")]}, [
                (tuple([{"X": 1, "Y": 2}.get(term, term) for term in terms]), ((1, 2),)),
                (tuple([{"X": 2, "Y": "b"}.get(term, term) for term in terms]), ((2, "b"),)),
            ])

    def test_one_row_by_several_instances(self):
        self.assert_instances((("p", ("X",)), (("edge", ("X", "Y")),), ()), {"edge": [(1, 2), (1, 3), (2, 1)]},
                              [((1,), ((1, 2),)), ((1,), ((1, 3),)), ((2,), ((2, 1),))])


class ChoicesTest(InstancesTestCase):
    BODY = (("edge", ("X", "Y")),)

    def assert_chosen(self, choices, keeps):
        self.assert_instances((("p", ("X",)), self.BODY, choices), TABLES,
                              [((row[0],), (row,)) for row in EDGES if keeps(row)])

    def test_choices_that_hold_and_that_do_not(self):
        self.assert_chosen((), lambda row: True)
        self.assert_chosen((("=", "X", "Y"),), lambda row: row[0] == row[1])
        self.assert_chosen((("!=", "X", "Y"),), lambda row: row[0] != row[1])
        self.assert_chosen((("<", "X", "Y"),), lambda row: row in [(1, 2), (1, 3), (2, 3), (3, "a")])
        self.assert_chosen((("<", "Y", "X"),), lambda row: row == (3, 1))
        self.assert_chosen((("=", "X", 3),), lambda row: row[0] == 3)
        self.assert_chosen((("<", 2, "X"),), lambda row: row[0] in (3, "a"))
        self.assert_chosen((("=", 1, 1),), lambda row: True)
        self.assert_chosen((("=", 1, 2),), lambda row: False)

    def test_several_choices(self):
        self.assert_chosen((("<", "X", "Y"), ("!=", "X", 1)), lambda row: row in [(2, 3), (3, "a")])
        self.assert_chosen((("!=", "X", 1), ("!=", "X", 3), ("!=", "Y", "a")), lambda row: row == (2, 3))
        self.assert_chosen((("!=", "X", 1), ("=", 1, 2)), lambda row: False)
        self.assert_chosen((("=", 2, 2), ("!=", "X", 1), ("<", 1, 2)), lambda row: row[0] != 1)
        self.assert_chosen((("!=", "X", 1), ("=", "X", 1)), lambda row: False)

    def test_choices_between_variables_of_several_atoms(self):
        body = (("edge", ("X", "Y")), ("edge", ("Z", "W")), ("one", ("V",)))
        for one, other in itertools.permutations(["X", "Y", "Z", "W", "V"], 2):
            for sign in ("=", "!=", "<"):
                self.assert_as_naive((("p", ("X", "W")), body, ((sign, one, other), ("!=", "Y", "Z"))), TABLES)

    def test_a_choice_of_values_alone_that_does_not_hold(self):
        for body in [(), (("edge", ("X", "Y")),), (("edge", ("X", "Y")), ("one", ("Y",)))]:
            for choices in [(("=", 1, 2),), (("=", 1, 1), ("<", 2, 1)), (("<", "b", "a"), ("=", 1, 1))]:
                self.assert_instances((("p", ()), body, choices), TABLES, [])


class OrderTest(InstancesTestCase):
    def test_by_the_used_rows_not_by_the_head(self):
        tables = {"p": [(9, "b"), (10, "a"), ("a", 3)]}
        self.assert_instances((("r", ("Y",)), (("p", ("X", "Y")),), ()), tables,
                              [(("b",), ((9, "b"),)), (("a",), ((10, "a"),)), ((3,), (("a", 3),))])

    def test_the_first_place_that_is_unlike(self):
        tables = {"p": [(1, 9), (1, 10), (2, 9)], "q": [(9, "z"), (9, "zz"), (10, 0), (10, "a")]}
        self.assert_instances((("r", ()), (("q", ("Y", "Z")), ("p", ("X", "Y"))), ()), tables, [
            ((), ((9, "z"), (1, 9))), ((), ((9, "z"), (2, 9))), ((), ((9, "zz"), (1, 9))), ((), ((9, "zz"), (2, 9))),
            ((), ((10, 0), (1, 10))), ((), ((10, "a"), (1, 10))),
        ])
        self.assert_instances((("r", ()), (("p", ("X", "Y")), ("q", ("Y", "Z"))), ()), tables, [
            ((), ((1, 9), (9, "z"))), ((), ((1, 9), (9, "zz"))), ((), ((1, 10), (10, 0))), ((), ((1, 10), (10, "a"))),
            ((), ((2, 9), (9, "z"))), ((), ((2, 9), (9, "zz"))),
        ])

    def test_numbers_and_words(self):
        rows = [(-MUCH,), (-10,), (-9,), (9,), (10,), (MUCH,), ("a",), ("a10",), ("a9",), ("b",)]
        told = instances((("r", ("Y",)), (("p", ("X",)), ("p", ("Y",)), ("p", ("Z",))), ()), {"p": rows})
        self.assertEqual([used for row, used in told], list(itertools.product(rows, repeat=3)))
        self.assertEqual([row for row, used in told], [used[1] for row, used in told])


class ManyTest(InstancesTestCase):
    def test_rules_of_all_sorts(self):
        chance = random.Random(19)
        values = [0, 1, 10, "a", "b"]
        for step in range(600):
            tables = {}
            for table in ("p", "q", "r"):
                rows = {tuple(chance.choices(values, k=chance.randrange(4))) for row in range(chance.randrange(9))}
                tables[table] = sorted(rows, key=key_of_row)
            rule = some_rule(chance, ["p", "q", "r", "s"], values, 3)
            self.assert_as_naive(rule, tables)
            for row, used in instances(rule, tables):
                binding = {}
                for (table, terms), factor in zip(rule[1], used):
                    self.assertIn(factor, tables[table])
                    binding = matched(terms, factor, binding)
                self.assertTrue(all([holds(choice, binding) for choice in rule[2]]))

    def test_three_hundred_rows(self):
        chain = {"p": [(number, number + 1) for number in range(300)], "q": [(number,) for number in range(300)]}
        with within(60):
            told = instances((("r", ("W", "X")), (("p", ("X", "Y")), ("p", ("Y", "Z")), ("p", ("Z", "W"))), ()), chain)
            self.assertEqual(told, [((n + 3, n), ((n, n + 1), (n + 1, n + 2), (n + 2, n + 3))) for n in range(298)])
            told = instances((("r", ("X", "Y")), (("q", ("X",)), ("q", ("Y",)), ("p", ("Y", "X"))), ()), chain)
            self.assertEqual(told, [((n + 1, n), ((n + 1,), (n,), (n, n + 1))) for n in range(299)])
            told = instances((("r", ("X",)), (("q", ("X",)), ("q", ("Y",)), ("q", ("Z",))),
                              (("=", "Y", "X"), ("=", "Z", "Y"), ("<", 297, "Z"))), chain)
            self.assertEqual(told, [((n,), ((n,),) * 3) for n in (298, 299)])
            self.assertEqual(len(instances((("r", ()), (("q", ("X",)), ("q", ("Y",))), ()), chain)), 90000)

    def test_three_hundred_tables(self):
        tables = {"t" + str(number): [(number,)] for number in range(300)}
        self.assert_instances((("r", ("X", "Y")), (("t299", ("X",)), ("t7", ("Y",))), ()), tables,
                              [((299, 7), ((299,), (7,)))])


if __name__ == "__main__":
    unittest.main()
