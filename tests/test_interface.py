"""Every name of the interface is there, with its arguments as they are told."""

import importlib
import inspect
import unittest

FUNCTIONS = {
    "words": ["is_whole(thing)", "is_word(thing)", "is_var(thing)", "is_value(thing)", "is_row(thing)"],
    "orders": ["value_before(one, other)", "row_before(one, other)", "in_order(rows)"],
    "whys": ["is_why(thing)", "of_fact(name)", "gathered(pairs)", "plus(one, other)", "times(one, other)"],
    "parts": ["ways_of(why)", "names_of(why)", "degree(why)", "without(why, names)", "bearing(why, name)",
              "filled(why, whys)"],
    "sets": ["thinned(sets)", "agreed(one, other)", "stoppers(accord)", "least(why)"],
    "worths": ["reckoned(why, by, worths)"],
    "rules": ["is_fact(thing)", "is_atom(thing)", "is_rule(thing)", "vet(facts, rules, rounds)"],
    "matching": ["matched(terms, row, binding)", "put_in(terms, binding)", "holds(choice, binding)"],
    "joins": ["instances(rule, tables)"],
    "runs": ["run(facts, rules, rounds, by, worths)"],
    "whyruns": ["why_run(facts, rules, rounds)"],
    "telling": ["asked(told, atom)", "settled(told)"],
    "trees": ["leaves(tree)", "height(tree)", "leads_to(facts, rules, tree)"],
    "groves": ["trees(facts, rules, rounds, table, row)", "tree_for(facts, rules, rounds, table, row, product)"],
    "cheapest": ["cheapest(facts, rules, rounds, costs, table, row)"],
    "texts": ["show_atom(atom)", "show_fact(fact)", "show_rule(rule)", "read_atom(text)", "read_fact(text)",
              "read_rule(text)"],
    "whytexts": ["show_why(why)", "read_why(text)"],
}
RECKONINGS = ["Counts()", "Costs()", "Bests(many=3)", "Trusts(top=100)", "Truths()", "Hands()"]
METHODS = ["fits(thing)", "nought()", "unit()", "either(one, other)", "both(one, other)", "repeated(worth, many)"]
DEEDS = ["put(fact)", "drop(name)", "move(fact)", "trail()", "facts_told()", "told()", "why(table, row)"]
ENTRIES = ["price(name, worth)", "enter(table, row, why)", "worth(table, row)", "told()"]


class InterfaceTest(unittest.TestCase):
    def assert_there(self, holder, told):
        with self.subTest(told=told):
            name = told.partition("(")[0]
            thing = getattr(holder, name)
            self.assertEqual(name + str(inspect.signature(thing)), told)
            return thing

    def test_functions(self):
        for file, functions in FUNCTIONS.items():
            module = importlib.import_module("whyrows." + file)
            for told in functions:
                thing = self.assert_there(module, told)
                self.assertTrue(inspect.isfunction(thing))
                self.assertEqual(thing.__module__, module.__name__)

    def test_reckonings(self):
        module = importlib.import_module("whyrows.reckonings")
        self.assert_there(module, "Reckoning()")
        for told in RECKONINGS:
            made = self.assert_there(module, told)
            self.assertTrue(issubclass(made, module.Reckoning))
            for method in METHODS:
                self.assert_there(made(), method)

    def test_keeper(self):
        made = self.assert_there(importlib.import_module("whyrows.keeper"), "Keeper(facts, rules, rounds)")
        for method in DEEDS:
            self.assert_there(made([], [], 0), method)

    def test_ledger(self):
        made = self.assert_there(importlib.import_module("whyrows.ledger"), "Ledger(by)")
        for by in importlib.import_module("whyrows.reckonings").Reckoning.__subclasses__():
            for method in ENTRIES:
                self.assert_there(made(by()), method)

    def test_desk(self):
        made = self.assert_there(importlib.import_module("whyrows.desk"), "Desk(rounds)")
        self.assert_there(made(0), "say(row)")

    def test_signs(self):
        # Its names are the program's own affair.
        importlib.import_module("whyrows.signs")


if __name__ == "__main__":
    unittest.main()
