import copy
import itertools
import unittest

from helpers import ODD_THINGS, SIXTY_FIGURES, nested
from whyrows.errors import NoFact, NoName, NoRounds, NoRule
from whyrows.rules import is_atom, is_fact, is_rule, vet

NO_WORDS = ["X", "A1", "", "a" * 13, "1a", "-", "a b", "aB", "a_b", "a-", "if ", "\xe4", "a\n", 1, 0, -1, None, True,
            False, [], ["a"], (), ("a",)]
WORDS = ["a", "if", "a0", "zzzzzzzzzzzz", "a23456789012"]
NO_VALUES = ["X", "Xy1", "", "a" * 13, "1", "1a", "aB", "a b", "AB", "\xe4", None, True, False, [], [1], (), (1,),
             ("a",)]
VALUES = [0, 1, -1, SIXTY_FIGURES, -SIXTY_FIGURES, "a", "if", "a0", "zzzzzzzzzzzz"]
VARIABLES = ["X", "Y", "Zz", "A23456789012", "X0"]
# A variable may stand in an atom, these may not.
NO_TERMS = [thing for thing in NO_VALUES if thing not in ("X", "Xy1")] + ["X" * 13, "XY", "X_", "X y", "A234567890123"]
ATOM = ("edge", ("X", "Y"))
RULE = (("way", ("X", "Y")), (("edge", ("X", "Y")),), (("!=", "X", "Y"),))


def rows_with(odd):
    """A row of each length with an odd thing at each place."""
    return [tuple([odd if place == here else 7 for place in range(length)])
            for length in range(1, 5) for here in range(length)]


class TruthTestCase(unittest.TestCase):
    def assert_truth(self, tells, thing, truth):
        with self.subTest(thing=repr(thing)[:120]):
            before = copy.deepcopy(thing)
            self.assertIs(tells(thing), truth)
            self.assertEqual(thing, before)


class FactTest(TruthTestCase):
    def test_facts(self):
        for name, table in itertools.product(WORDS, repeat=2):
            self.assert_truth(is_fact, (name, table, (1, "b")), True)
        for length in range(5):
            for row in itertools.product([0, "a"], repeat=length):
                self.assert_truth(is_fact, ("a", "t", row), True)
        for value in VALUES:
            self.assert_truth(is_fact, ("a", "t", (value,)), True)

    def test_a_name_or_a_table_that_is_no_word(self):
        for thing in NO_WORDS:
            self.assert_truth(is_fact, (thing, "t", (1,)), False)
            self.assert_truth(is_fact, ("a", thing, (1,)), False)

    def test_a_row_that_is_none(self):
        for thing in [[], [1], (1, 2, 3, 4, 5), ("a",) * 5, None, True, 1, "a", "X", "", ((),), ((1,),), ([],)]:
            self.assert_truth(is_fact, ("a", "t", thing), False)
        for odd in NO_VALUES:
            for row in rows_with(odd):
                self.assert_truth(is_fact, ("a", "t", row), False)

    def test_another_form(self):
        fact = ("a", "t", (1,))
        for thing in [list(fact), fact[:2], fact[1:], fact[:1], (), fact + ((),), fact + (None,), fact + ("a",), [fact],
                      (fact,), ("a", (1,), "t"), ((1,), "a", "t"), ("a", "t", 1), (("a", "t"), (1,)),
                      ("a", ("t", (1,))), {"a": 1}]:
            self.assert_truth(is_fact, thing, False)
        for thing in ODD_THINGS:
            self.assert_truth(is_fact, thing, False)


class AtomTest(TruthTestCase):
    def test_atoms_of_none_to_four_terms(self):
        for length in range(5):
            for terms in itertools.product([0, "a", "X"], repeat=length):
                self.assert_truth(is_atom, ("t", terms), True)
        for term in VALUES + VARIABLES:
            self.assert_truth(is_atom, ("t", (term,)), True)
        for table in WORDS:
            self.assert_truth(is_atom, (table, ("X",)), True)

    def test_five_terms(self):
        for term in [1, "a", "X"]:
            self.assert_truth(is_atom, ("t", (term,) * 4), True)
            self.assert_truth(is_atom, ("t", (term,) * 5), False)
            self.assert_truth(is_atom, ("t", (term,) * 300), False)

    def test_a_table_that_is_no_word(self):
        for thing in NO_WORDS:
            self.assert_truth(is_atom, (thing, ("X",)), False)

    def test_odd_terms(self):
        for odd in NO_TERMS:
            for terms in rows_with(odd):
                self.assert_truth(is_atom, ("t", terms), False)

    def test_another_form(self):
        for thing in [list(ATOM), ("t", [1]), ("t", []), ("t",), ("t", (1,), ()), ("t", (1,), None), ("t", 1),
                      ("t", "X"), ("t", None), ("t", "X", "Y"), (("X",), "t"), [ATOM], (ATOM,), ("a", "t", (1,))]:
            self.assert_truth(is_atom, thing, False)
        for thing in ODD_THINGS:
            self.assert_truth(is_atom, thing, False)


class RuleTest(TruthTestCase):
    def test_rules(self):
        for thing in [
            RULE, (("p", ()), (), ()), (("p", (1, "a")), (), ()), (("p", ("X",)), (("p", ("X",)),), ()),
            (("p", ("X", "X")), (("q", ("X",)),), ()), (("p", ()), (("q", ("X", "Y", "Z", "W")),), ()),
            (("p", (1,)), (), (("=", 1, 1), ("<", 2, 1), ("!=", "a", 1))),
            (("p", ("Z",)), (("q", ("X", "Y")), ("r", ("Y", "Z"))),
             (("<", "X", "Z"), ("=", "Y", "Y"), ("!=", "Z", "b"))),
            (("p", ("A", "B", "C", "D")), (("q", ("A",)), ("q", ("B",)), ("q", ("C", "D"))), ()),
        ]:
            self.assert_truth(is_rule, thing, True)

    def test_none_to_four_atoms(self):
        for many in range(6):
            body = tuple([("q", ("X", number)) for number in range(many)])
            self.assert_truth(is_rule, (("p", ()), body, ()), many <= 3)
            self.assert_truth(is_rule, (("p", ()), (("q", ("X",)),) * many, ()), many <= 3)

    def test_none_to_four_choices(self):
        for many in range(6):
            choices = tuple([("<", "X", number) for number in range(many)])
            self.assert_truth(is_rule, (("p", ()), (("q", ("X",)),), choices), many <= 3)
            self.assert_truth(is_rule, (("p", ()), (), (("=", 1, 1),) * many), many <= 3)

    def with_choice(self, choice):
        return (("p", ("X",)), (("q", ("X", "Y")),), (choice,))

    def test_choices(self):
        for sign in ("=", "!=", "<"):
            for one, other in itertools.product([1, "a", "X", "Y", SIXTY_FIGURES], repeat=2):
                self.assert_truth(is_rule, self.with_choice((sign, one, other)), True)

    def test_another_sign(self):
        for sign in ["==", ">", "<=", ">=", "<>", "!", "", " ", "= ", " <", "lt", "X", None, True, 0, 1, [], ["="], (),
                     ("=",), ("=", "!=", "<")]:
            self.assert_truth(is_rule, self.with_choice((sign, "X", "Y")), False)

    def test_odd_terms_in_a_choice(self):
        for odd in NO_TERMS:
            self.assert_truth(is_rule, self.with_choice(("=", odd, "X")), False)
            self.assert_truth(is_rule, self.with_choice(("=", "X", odd)), False)
            self.assert_truth(is_rule, self.with_choice(("=", odd, odd)), False)

    def test_a_choice_of_another_form(self):
        for choice in [["=", "X", "Y"], ("=", "X"), ("=",), (), ("=", "X", "Y", "Y"), ("=", ("X", "Y")),
                       ("X", "=", "Y"), "=", "X=Y", None, 1, True, [("=", "X", "Y")], (("=", "X", "Y"),)]:
            self.assert_truth(is_rule, self.with_choice(choice), False)
            good = ("!=", "X", "Y")
            self.assert_truth(is_rule, (("p", ("X",)), (("q", ("X", "Y")),), (good, choice)), False)
            self.assert_truth(is_rule, (("p", ("X",)), (("q", ("X", "Y")),), (good, good, choice)), False)

    def test_a_variable_of_the_head_that_stands_in_no_atom_of_the_body(self):
        for place in range(4):
            terms = tuple(["Y" if here == place else "X" for here in range(4)])
            self.assert_truth(is_rule, (("p", terms), (("q", ("X",)),), ()), False)
            self.assert_truth(is_rule, (("p", terms), (("q", ("X",)), ("p", ("X",)), ("q", (1, "Y"))), ()), True)
        self.assert_truth(is_rule, (("p", ("X",)), (), ()), False)
        self.assert_truth(is_rule, (("p", ("X",)), (("q", ("x",)),), ()), False)
        self.assert_truth(is_rule, (("p", ("X1",)), (("q", ("X", "X2")),), ()), False)
        # A choice binds nothing.
        self.assert_truth(is_rule, (("p", ("X",)), (("q", ("Y",)),), (("=", "X", "Y"),)), False)

    def test_a_variable_of_a_choice_that_stands_in_no_atom_of_the_body(self):
        for sign in ("=", "!=", "<"):
            for choice in [(sign, "Z", "X"), (sign, "X", "Z"), (sign, "Z", "Z"), (sign, "Z", 1), (sign, 1, "Z")]:
                good = ("!=", "X", "Y")
                self.assert_truth(is_rule, self.with_choice(choice), False)
                self.assert_truth(is_rule, (("p", ()), (("q", ("X", "Y")),), (good, choice, good)), False)
                self.assert_truth(is_rule, (("p", ()), (("q", ("X", "Y")),), (good, good, choice)), False)
                self.assert_truth(is_rule, (("p", ()), (("q", ("X", "Y")), ("r", ("Z",))), (good, choice)), True)
                self.assert_truth(is_rule, (("p", (1,)), (), (choice,)), False)

    def test_an_empty_body(self):
        self.assert_truth(is_rule, (("p", ()), (), ()), True)
        self.assert_truth(is_rule, (("p", (1, "a", 2, "b")), (), (("<", 2, 1),)), True)
        self.assert_truth(is_rule, (("p", (1, "X")), (), ()), False)
        self.assert_truth(is_rule, (("p", (1,)), (), (("<", "X", 1),)), False)

    def test_odd_parts(self):
        for odd in ODD_THINGS + [(), [], 1, "a", "X", ("t",), ("t", [1]), ["t", (1,)]]:
            self.assert_truth(is_rule, odd, False)
            self.assert_truth(is_rule, (odd,) + RULE[1:], False)
            if odd != ():
                self.assert_truth(is_rule, (RULE[0], odd, ()), False)
                self.assert_truth(is_rule, (RULE[0], RULE[1], odd), False)
            for place in range(3):
                body = tuple([odd if here == place else ATOM for here in range(3)])
                self.assert_truth(is_rule, (RULE[0], body, ()), False)

    def test_odd_atoms(self):
        for odd in NO_TERMS:
            self.assert_truth(is_rule, (("p", (1, odd)), (("q", (1,)),), ()), False)
            self.assert_truth(is_rule, (("p", (1,)), (("q", (1, odd)),), ()), False)
        for odd in NO_WORDS:
            self.assert_truth(is_rule, ((odd, (1,)), (("q", (1,)),), ()), False)
            self.assert_truth(is_rule, (("p", (1,)), (("q", (1,)), (odd, (1,))), ()), False)
        self.assert_truth(is_rule, (("p", ("X",) * 5), (("q", ("X",)),), ()), False)
        self.assert_truth(is_rule, (("p", ("X",)), (("q", ("X",) * 5),), ()), False)

    def test_another_form(self):
        for thing in [list(RULE), RULE[:2], RULE[1:], RULE[:1], RULE + ((),), RULE + (None,), (RULE,), [RULE],
                      (RULE[0], list(RULE[1]), RULE[2]), (RULE[0], RULE[1], list(RULE[2])), (list(RULE[0]),) + RULE[1:],
                      (RULE[0], RULE[1][0], RULE[2]), (RULE[0], RULE[1], RULE[2][0]), (RULE[1], RULE[0], RULE[2]),
                      (RULE[0], [], []), (RULE[0], (), []), (RULE[0], [], ()), (RULE[0], None, ()),
                      (("p", ()), (), None)]:
            self.assert_truth(is_rule, thing, False)

    def test_deep_things(self):
        for wrap in (list, tuple):
            for depth in range(1, 9):
                deep = nested(depth, wrap)
                for tells in (is_fact, is_atom, is_rule):
                    self.assert_truth(tells, deep, False)
                    self.assert_truth(tells, ("a", deep), deep == () and tells == is_atom)
                    self.assert_truth(tells, ("a", "t", deep), deep == () and tells == is_fact)


FACTS = [("a", "edge", (1, 2)), ("b", "edge", (2, 3)), ("c", "edge", (1, 2)), ("d", "node", ())]
RULES = [RULE, RULE, (("p", ()), (), ())]
NO_FACTS = [None, (), ("a", "t"), ["a", "t", (1,)], ("A", "t", (1,)), ("a", "t", ("X",)), ("a", "t", [1]),
            ("a", "t", (True,)), ATOM, RULE, 0, "a"]
NO_RULES = [None, (), RULE[:2], list(RULE), (("p", ("X",)), (), ()), ATOM, FACTS[0], 1, "rule",
            (("p", ("X",)), (("q", ("X",)),), (("<=", "X", 1),)), (RULE[0], RULE[1] * 4, ())]
NO_ROUNDS = [-1, 6, 7, -5, SIXTY_FIGURES, -SIXTY_FIGURES, True, False, "1", "", None, [], [1], (), (1,)]


class VetTest(unittest.TestCase):
    def assert_refused(self, error, facts, rules, rounds):
        with self.subTest(facts=facts, rules=rules, rounds=rounds):
            before = copy.deepcopy((facts, rules, rounds))
            with self.assertRaises(error) as caught:
                vet(facts, rules, rounds)
            self.assertIs(caught.exception.__class__, error)
            self.assertEqual((facts, rules, rounds), before)

    def test_all_right(self):
        for facts, rules, rounds in itertools.product([[], FACTS], [[], RULES], range(6)):
            before = copy.deepcopy((facts, rules))
            self.assertIs(vet(facts, rules, rounds), True)
            self.assertEqual((facts, rules), before)

    def test_three_hundred(self):
        facts = [("n" + str(number), "t", (1,)) for number in range(300)]
        self.assertIs(vet(facts, [RULE] * 300, 5), True)
        self.assert_refused(NoName, facts[:299] + facts[:1], [RULE], 5)
        self.assert_refused(NoRule, facts, [RULE] * 299 + [None], 5)

    def test_no_fact(self):
        for odd in NO_FACTS + ODD_THINGS:
            for place in range(len(FACTS) + 1):
                self.assert_refused(NoFact, FACTS[:place] + [odd] + FACTS[place:], RULES, 1)
            self.assert_refused(NoFact, [odd], [], 0)

    def test_a_name_that_is_taken(self):
        for name, table, row in FACTS:
            self.assert_refused(NoName, FACTS + [(name, "other", (9,))], RULES, 1)
            self.assert_refused(NoName, [(name, "other", (9,))] + FACTS, RULES, 1)
            self.assert_refused(NoName, FACTS + [(name, table, row)], RULES, 1)

    def test_no_rule(self):
        for odd in NO_RULES + ODD_THINGS:
            for place in range(len(RULES) + 1):
                self.assert_refused(NoRule, FACTS, RULES[:place] + [odd] + RULES[place:], 1)
            self.assert_refused(NoRule, [], [odd], 0)

    def test_no_rounds(self):
        for odd in NO_ROUNDS:
            self.assert_refused(NoRounds, FACTS, RULES, odd)
            self.assert_refused(NoRounds, [], [], odd)
        for odd in ODD_THINGS:
            self.assert_refused(NoRounds, FACTS, RULES, odd)

    def test_the_first_fault_among_the_facts(self):
        taken = ("a", "other", (9,))
        for odd in NO_FACTS:
            self.assert_refused(NoFact, FACTS + [odd, taken], RULES, 1)
            self.assert_refused(NoName, FACTS + [taken, odd], RULES, 1)
            self.assert_refused(NoName, [FACTS[0], taken, odd], RULES, 1)
            self.assert_refused(NoFact, [odd, FACTS[0], taken], RULES, 1)
        # No fact at all comes ahead of its name's being taken.
        for odd in [("a", "t", [1]), ("a", "T", (1,)), ("a", "t", (1,), 1), ("a", "t"), ["a", "t", (1,)],
                    ("a", "t", (None,))]:
            self.assert_refused(NoFact, FACTS + [odd], RULES, 1)
            # And what is no fact takes no name.
            self.assert_refused(NoFact, [odd] + FACTS, RULES, 1)

    def test_several_faults_at_once(self):
        for odd_fact, odd_rule, odd_rounds in itertools.product(NO_FACTS, NO_RULES, [-1, 6, True, "1", None]):
            self.assert_refused(NoFact, [odd_fact], [odd_rule], odd_rounds)
            self.assert_refused(NoRule, FACTS, [odd_rule], odd_rounds)
        for odd_rule, odd_rounds in itertools.product(NO_RULES, [-1, 6, True, "1", None]):
            self.assert_refused(NoName, FACTS + FACTS, RULES + [odd_rule], odd_rounds)
            self.assert_refused(NoName, FACTS + FACTS, RULES + [odd_rule], 1)
            self.assert_refused(NoName, FACTS + FACTS, RULES, odd_rounds)
            self.assert_refused(NoFact, FACTS + [None], RULES, odd_rounds)


if __name__ == "__main__":
    unittest.main()
