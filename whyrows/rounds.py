"""What stands behind each round of a run, and with which worths (points 21, 22, 24 and 25).

The rows of all rounds come first, then their worths: a run with too many rows is given up ahead of any reckoning.
Facts, rules and rounds are vetted, and the worths are asked, ahead of all this.
"""

from whyrows.errors import TooMuch
from whyrows.heads import Heads
from whyrows.orders import pairs_in_order
from whyrows.rules import each_once
from whyrows.sums import SumsByRule

MOST_ROWS = 60


def ask_few_rows(standing):
    if len(standing) > MOST_ROWS:
        raise TooMuch("more than sixty rows stand")


def let_stand(standing, pair):
    standing[pair] = True
    ask_few_rows(standing)


def rows_of_facts(facts):
    standing = {}
    for name, table, row in facts:
        let_stand(standing, (table, row))
    return standing


def let_heads_stand(standing, rule, tables):
    heads = Heads(rule, tables)
    row = heads.following(standing)
    while row is not None:
        let_stand(standing, (rule[0][0], row))
        row = heads.following(standing)


def in_tables(standing):
    tables = {}
    for table, row in pairs_in_order(standing):
        tables.setdefault(table, []).append(row)
    return tables


def tables_by_round(facts, rules, rounds):
    standing = rows_of_facts(facts)
    told = [in_tables(standing)]
    for number in range(rounds):
        many = len(standing)
        # No row ever goes, so those of the round ahead may stay where they are.
        for rule in each_once(rules):
            let_heads_stand(standing, rule, told[number])
        if len(standing) == many:
            # Where no row came, none comes later.
            return told + [told[number]] * (rounds - number)
        told.append(in_tables(standing))
    return told


def add_worth(summed, pair, worth, by):
    # The sum is always a new worth, so no list of one round or of the asker's stands in another round.
    summed[pair] = by.either(summed.get(pair, by.nought()), worth)


def worths_of_facts(facts, by, worths):
    summed = {}
    for name, table, row in facts:
        add_worth(summed, (table, row), worths[name], by)
    return summed


def add_sums(summed, sums, table, rows):
    for row in rows:
        add_worth(summed, (table, row), sums.sum_for(row), sums.by)


def worths_by_round(facts, rules, rounds, by, worths):
    tables = tables_by_round(facts, rules, rounds)
    told = [worths_of_facts(facts, by, worths)]
    sums = None
    for number in range(rounds):
        summed = worths_of_facts(facts, by, worths)
        sums = SumsByRule(tables[number], by, told[number], sums)
        for rule in rules:
            # The rows that come are asked, too: one of them stands by its rule, whatever the sum is.
            add_sums(summed, sums.sums_of(rule), rule[0][0], tables[number + 1].get(rule[0][0], []))
        told.append(summed)
    return told


def told_behind(worths):
    return [(table, row, worths[(table, row)]) for table, row in pairs_in_order(worths)]


def told_by_round(facts, rules, rounds, by, worths):
    return [told_behind(behind) for behind in worths_by_round(facts, rules, rounds, by, worths)]
