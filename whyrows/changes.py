"""What a deed reckons again (points 33 and 34).

The why of a row behind a round hangs on its facts, and on the whys behind the round ahead of the rows that lead to it.
So behind each round just the places of the deed are reckoned again, and the pairs of the instances that use what has
another why behind the round ahead: of those that were there ahead of the deed, and of those that are there now.
"""

from whyrows.growing import Growing, whys_of_facts
from whyrows.orders import pairs_in_order
from whyrows.rounds import add_sums, ask_few_rows, in_tables, let_heads_stand, worths_of_facts
from whyrows.rules import each_once
from whyrows.sums import SumsByRule

# No word is empty, so no table has this name.
CHANGED = ""


def asking_changed(rule, place):
    # What changed is asked first, being little: less is joined on so, and what the rule makes stays the same.
    others = rule[1][:place] + rule[1][place + 1:]
    return (rule[0], ((CHANGED, rule[1][place][1]),) + others, rule[2])


def pairs_using(changed, rules, whys):
    # What instances make stands behind the next round: so of the rows that stand now, too many are met here.
    using = {}
    tables = in_tables(whys)
    changed_rows = in_tables([pair for pair in changed if pair in whys])
    for rule in each_once(rules):
        for place, atom in enumerate(rule[1]):
            if atom[0] in changed_rows:
                tables[CHANGED] = changed_rows[atom[0]]
                let_heads_stand(using, asking_changed(rule, place), tables)
    return using


def changed_among(pairs, old, new):
    return [pair for pair in pairs if old.get(pair, []) != new.get(pair, [])]


def whys_at(places, facts):
    there = [fact for fact in facts if fact[1:] in places]
    return worths_of_facts(there, Growing(), whys_of_facts(there))


def whys_again(pairs, rules, of_facts, sums):
    whys = dict([(pair, of_facts.get(pair, [])) for pair in pairs])
    rows_again = in_tables(pairs)
    for rule in rules:
        table = rule[0][0]
        if table in rows_again:
            add_sums(whys, sums.sums_of(rule), table, rows_again[table])
    return whys


def renewed(old, pairs, whys):
    new = dict(old)
    for pair in pairs:
        new[pair] = whys.get(pair, [])
    standing = dict([(pair, why) for pair, why in new.items() if why != []])
    ask_few_rows(standing)
    return standing


# What a deed leads to: the whys behind all rounds now, and the pairs that were reckoned again behind each. Those that
# were kept before it stay as they are, since the deed may still be refused.
class Change:
    def __init__(self, facts, rules, before, places):
        self.rules = rules
        self.before = before
        self.places = places
        self.again = [pairs_in_order(places)]
        self.after = [renewed(before[0], places, whys_at(places, facts))]
        self.sums = None
        for number in range(1, len(before)):
            self.go_through(number)

    def changed_behind(self, number):
        return changed_among(self.again[number], self.before[number], self.after[number])

    def pairs_again(self, number):
        changed = self.changed_behind(number - 1)
        found = dict([(pair, True) for pair in self.places])
        found.update(pairs_using(changed, self.rules, self.after[number - 1]))
        found.update(pairs_using(changed, self.rules, self.before[number - 1]))
        return pairs_in_order(found)

    def go_through(self, number):
        pairs = self.pairs_again(number)
        ahead = self.after[number - 1]
        self.sums = SumsByRule(in_tables(ahead), Growing(), ahead, self.sums)
        # Behind round 0 a row has the why of its facts alone.
        whys = whys_again(pairs, self.rules, self.after[0], self.sums)
        self.again.append(pairs)
        self.after.append(renewed(self.before[number], pairs, whys))
