"""Points 17 to 24, and the trees of 29, in the plainest words, however slow: what the program tells is held against it.

Nothing here is drawn from the modules that are tested with it, and all bindings are tried out.
"""

import itertools

from whyrows.whys import plus, times


def is_variable(term):
    return isinstance(term, str) and term[:1].isupper()


def key_of_value(value):
    return (isinstance(value, str), value)


def key_of_row(row):
    return [key_of_value(value) for value in row]


def filled_in(terms, binding):
    return tuple(binding[term] if is_variable(term) else term for term in terms)


def is_kept(choice, binding):
    sign = choice[0]
    one, other = filled_in(choice[1:], binding)
    if sign == "<":
        return key_of_value(one) < key_of_value(other)
    return (one == other) == (sign == "=")


def all_bindings(rule, tables):
    variables = sorted({term for table, terms in rule[1] for term in terms if is_variable(term)})
    values = {value for rows in tables.values() for row in rows for value in row}
    for chosen in itertools.product(values, repeat=len(variables)):
        yield dict(zip(variables, chosen))


def naive_instances(rule, tables):
    head, body, choices = rule
    found = []
    for binding in all_bindings(rule, tables):
        used = tuple(filled_in(terms, binding) for table, terms in body)
        there = all(row in tables.get(table, []) for (table, terms), row in zip(body, used))
        if there and all(is_kept(choice, binding) for choice in choices):
            found.append((filled_in(head[1], binding), used))
    return sorted(found, key=lambda instance: [key_of_row(row) for row in instance[1]])


def worth_of_facts(facts, pair, by, worths):
    worth = by.nought()
    for name, table, row in facts:
        if (table, row) == pair:
            worth = by.either(worth, worths[name])
    return worth


def naive_round(facts, rules, by, worths, ahead):
    """`ahead` is a dict from pairs to worths, None for round 0."""
    behind = {(table, row): worth_of_facts(facts, (table, row), by, worths) for name, table, row in facts}
    if ahead is None:
        return behind
    tables = {}
    for table, row in ahead:
        tables.setdefault(table, []).append(row)
    for head, body, choices in rules:
        for row, used in naive_instances((head, body, choices), tables):
            worth = by.unit()
            for (table, terms), factor in zip(body, used):
                worth = by.both(worth, ahead[(table, factor)])
            behind[(head[0], row)] = by.either(behind.get((head[0], row), by.nought()), worth)
    return behind


def naive_run(facts, rules, rounds, by, worths):
    told = []
    behind = None
    for number in range(rounds + 1):
        behind = naive_round(facts, rules, by, worths, behind)
        pairs = sorted(behind, key=lambda pair: (pair[0], key_of_row(pair[1])))
        told.append([(table, row, behind[(table, row)]) for table, row in pairs])
    return told


class AsWhys:
    """Whys in the place of worths (point 23)."""

    def nought(self):
        return []

    def unit(self):
        return [((), 1)]

    def either(self, one, other):
        return plus(one, other)

    def both(self, one, other):
        return times(one, other)


def some_rule(chance, tables, values, most_terms):
    """A rule, whichever: each of its variables stands in the body."""
    body = []
    for number in range(chance.choice([0, 1, 1, 2, 2, 2, 3])):
        terms = [chance.choice(["X", "Y", "Z", "X", "Y", chance.choice(values)])
                 for place in range(chance.randrange(most_terms + 1))]
        body.append((chance.choice(tables), tuple(terms)))
    known = [term for table, terms in body for term in terms if is_variable(term)] + [chance.choice(values)]
    head = (chance.choice(tables), tuple(chance.choices(known, k=chance.randrange(most_terms + 1))))
    choices = []
    for number in range(chance.choice([0, 0, 0, 1, 2])):
        choices.append((chance.choice(["=", "!=", "!=", "<"]), chance.choice(known + values), chance.choice(known)))
    return (head, tuple(body), tuple(choices))


def naive_trees(facts, rules, rounds):
    """A dict from pairs to all trees that lead there within the rounds, each once."""
    within = {}
    for name, table, row in facts:
        within.setdefault((table, row), []).append(name)
    grown = within
    for number in range(rounds):
        tables = {}
        for table, row in grown:
            tables.setdefault(table, []).append(row)
        ahead, grown = grown, {pair: list(names) for pair, names in within.items()}
        for place, (head, body, choices) in enumerate(rules):
            for row, used in naive_instances((head, body, choices), tables):
                kids = itertools.product(*[ahead[(table, factor)] for (table, terms), factor in zip(body, used)])
                grown.setdefault((head[0], row), []).extend((place, row, chosen) for chosen in kids)
    return grown
