"""Points 17 to 24, the trees of 29, and what a deed tells (33 and 34), in the plainest words, however slow: what the
program tells is held against it.

Nothing here is drawn from the modules that are tested with it, and all bindings are tried out.
"""

import itertools
import random

from whyrows.whys import plus, times


def is_variable(term):
    return isinstance(term, str) and term[:1].isupper()


def key_of_value(value):
    return (isinstance(value, str), value)


def key_of_row(row):
    return [key_of_value(value) for value in row]


def filled_in(terms, binding):
    return tuple(binding[term] if is_variable(term) else term for term in terms)


def is_kept(choice, binding):
    sign = choice[0]
    one, other = filled_in(choice[1:], binding)
    if sign == "<":
        return key_of_value(one) < key_of_value(other)
    return (one == other) == (sign == "=")


def all_bindings(rule, tables):
    variables = sorted({term for table, terms in rule[1] for term in terms if is_variable(term)})
    values = {value for rows in tables.values() for row in rows for value in row}
    for chosen in itertools.product(values, repeat=len(variables)):
        yield dict(zip(variables, chosen))


def naive_instances(rule, tables):
    head, body, choices = rule
    found = []
    for binding in all_bindings(rule, tables):
        used = tuple(filled_in(terms, binding) for table, terms in body)
        there = all(row in tables.get(table, []) for (table, terms), row in zip(body, used))
        if there and all(is_kept(choice, binding) for choice in choices):
            found.append((filled_in(head[1], binding), used))
    return sorted(found, key=lambda instance: [key_of_row(row) for row in instance[1]])


def worth_of_facts(facts, pair, by, worths):
    worth = by.nought()
    for name, table, row in facts:
        if (table, row) == pair:
            worth = by.either(worth, worths[name])
    return worth


def naive_round(facts, rules, by, worths, ahead):
    """`ahead` is a dict from pairs to worths, None for round 0."""
    behind = {(table, row): worth_of_facts(facts, (table, row), by, worths) for name, table, row in facts}
    if ahead is None:
        return behind
    tables = {}
    for table, row in ahead:
        tables.setdefault(table, []).append(row)
    for head, body, choices in rules:
        for row, used in naive_instances((head, body, choices), tables):
            worth = by.unit()
            for (table, terms), factor in zip(body, used):
                worth = by.both(worth, ahead[(table, factor)])
            behind[(head[0], row)] = by.either(behind.get((head[0], row), by.nought()), worth)
    return behind


def naive_run(facts, rules, rounds, by, worths):
    told = []
    behind = None
    for number in range(rounds + 1):
        behind = naive_round(facts, rules, by, worths, behind)
        pairs = sorted(behind, key=lambda pair: (pair[0], key_of_row(pair[1])))
        told.append([(table, row, behind[(table, row)]) for table, row in pairs])
    return told


class AsWhys:
    """Whys in the place of worths (point 23)."""

    def nought(self):
        return []

    def unit(self):
        return [((), 1)]

    def either(self, one, other):
        return plus(one, other)

    def both(self, one, other):
        return times(one, other)


def naive_whys(facts, rules, rounds):
    return naive_run(facts, rules, rounds, AsWhys(), {name: [((name,), 1)] for name, table, row in facts})


def some_rule(chance, tables, values, most_terms):
    """A rule, whichever: each of its variables stands in the body."""
    body = []
    for number in range(chance.choice([0, 1, 1, 2, 2, 2, 3])):
        terms = [chance.choice(["X", "Y", "Z", "X", "Y", chance.choice(values)])
                 for place in range(chance.randrange(most_terms + 1))]
        body.append((chance.choice(tables), tuple(terms)))
    known = [term for table, terms in body for term in terms if is_variable(term)] + [chance.choice(values)]
    head = (chance.choice(tables), tuple(chance.choices(known, k=chance.randrange(most_terms + 1))))
    choices = []
    for number in range(chance.choice([0, 0, 0, 1, 2])):
        choices.append((chance.choice(["=", "!=", "!=", "<"]), chance.choice(known + values), chance.choice(known)))
    return (head, tuple(body), tuple(choices))


def naive_trees(facts, rules, rounds):
    """A dict from pairs to all trees that lead there within the rounds, each once."""
    within = {}
    for name, table, row in facts:
        within.setdefault((table, row), []).append(name)
    grown = within
    for number in range(rounds):
        tables = {}
        for table, row in grown:
            tables.setdefault(table, []).append(row)
        ahead, grown = grown, {pair: list(names) for pair, names in within.items()}
        for place, (head, body, choices) in enumerate(rules):
            for row, used in naive_instances((head, body, choices), tables):
                kids = itertools.product(*[ahead[(table, factor)] for (table, terms), factor in zip(body, used)])
                grown.setdefault((head[0], row), []).extend((place, row, chosen) for chosen in kids)
    return grown


def naive_whys_or_none(facts, rules, rounds):
    """The run of whys that is due; None where there are too many rows or products, behind whichever round."""
    for number in range(rounds + 1):
        told = naive_whys(facts, rules, number)
        if len(told[-1]) > 60 or max([len(why) for table, row, why in told[-1]], default=0) > 50:
            return None
    return told


def close_rule(chance):
    """A rule that nearly always has instances where the rows of p and q have one value."""
    body = tuple([(chance.choice("pq"), (chance.choice("XY"),)) for number in range(chance.choice([1, 2, 2, 3]))])
    variables = [terms[0] for table, terms in body]
    choices = (("!=", variables[0], variables[-1]),) if chance.randrange(4) == 0 else ()
    return ((chance.choice("pq"), (chance.choice(variables + [3]),)), body, choices)


def some_runs(seed, many):
    """Facts, rules and rounds of all sorts, with the run of whys that is due, or None."""
    chance = random.Random(seed)
    for step in range(many):
        if step % 2 == 0:
            facts = [(name, chance.choice("pq"), (chance.choice([1, 2]),)) for name in "abcd"[:chance.randrange(1, 5)]]
            rules = [close_rule(chance) for number in range(chance.randrange(2, 5))]
        else:
            values = chance.choice([[1, 2, "a"], [1, "b"]])
            facts = [(name, chance.choice("pqr"), tuple(chance.choices(values, k=chance.randrange(3))))
                     for name in "abcdef"[:chance.randrange(7)]]
            rules = [some_rule(chance, ["p", "q", "r", "s"], values, 2) for number in range(chance.randrange(1, 5))]
        rounds = chance.choice([1, 2, 2, 3, 3, 4])
        yield facts, rules, rounds, naive_whys_or_none(facts, rules, rounds)


def in_naive_order(pairs):
    return sorted(pairs, key=lambda pair: (pair[0], key_of_row(pair[1])))


def naive_changed(pairs, old, new):
    """The pairs, in order, whose whys in two dicts are unlike."""
    return in_naive_order([pair for pair in pairs if old.get(pair, []) != new.get(pair, [])])


def naive_using(rules, standing, used_pairs):
    """The pairs of all instances in the rows that stand which use one of some pairs."""
    tables = {}
    for table, row in standing:
        tables.setdefault(table, []).append(row)
    found = set()
    for rule in rules:
        for row, used in naive_instances(rule, tables):
            if any((table, factor) in used_pairs for (table, terms), factor in zip(rule[1], used)):
                found.add((rule[0][0], row))
    return found


def by_pair(run):
    """What is told behind each round, as dicts."""
    return [{(table, row): why for table, row, why in behind} for behind in run]


def naive_deed(old_run, new_run, rules, places):
    """What a deed tells, and its trail, of the runs of whys ahead of it and behind it."""
    old, new = by_pair(old_run), by_pair(new_run)
    trail = []
    again = set(places)
    for number in range(len(old)):
        if number > 0:
            changed = naive_changed(again, old[number - 1], new[number - 1])
            again = set(places) | naive_using(rules, old[number - 1], changed)
            again |= naive_using(rules, new[number - 1], changed)
        trail.extend((number, table, row) for table, row in in_naive_order(again))
    return naive_changed(set(old[-1]) | set(new[-1]), old[-1], new[-1]), trail
