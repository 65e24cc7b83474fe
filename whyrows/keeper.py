"""A keeper of facts and of the whys of all rounds (points 32 to 35)."""

from whyrows.changes import Change
from whyrows.errors import NoFact, NoName
from whyrows.growing import whys_by_round
from whyrows.rounds import told_behind
from whyrows.rules import is_fact, vet


def ask_fact(fact):
    if not is_fact(fact):
        raise NoFact("what is put or moved is no fact")


def own_rows(rows):
    # A why has nothing but tuples in it, so its copy is the asker's own throughout.
    return [(table, row, list(why)) for table, row, why in rows]


class Keeper:
    def __init__(self, facts, rules, rounds):
        vet(facts, rules, rounds)
        self.rules = list(rules)
        self.by_name = dict([(fact[0], fact) for fact in facts])
        self.whys = whys_by_round(facts, rules, rounds)
        self.again = []

    def put(self, fact):
        ask_fact(fact)
        name = fact[0]
        if name in self.by_name:
            raise NoName(f"a fact of the name {name} stands")
        return self.kept_with(fact, [fact[1:]])

    def drop(self, name):
        gone = self.standing_fact(name)
        by_name = dict(self.by_name)
        by_name.pop(name)
        return self.kept(by_name, [gone[1:]])

    def move(self, fact):
        ask_fact(fact)
        gone = self.standing_fact(fact[0])
        return self.kept_with(fact, [gone[1:]] if gone == fact else [gone[1:], fact[1:]])

    def standing_fact(self, name):
        if name not in self.by_name:
            raise NoName("no fact of this name stands")
        return self.by_name[name]

    def kept_with(self, fact, places):
        by_name = dict(self.by_name)
        by_name[fact[0]] = fact
        return self.kept(by_name, places)

    def kept(self, by_name, places):
        change = Change(list(by_name.values()), self.rules, self.whys, places)
        # Not sooner than here, where nothing is refused any more.
        self.by_name = by_name
        self.whys = change.after
        self.again = change.again
        return change.changed_behind(len(change.after) - 1)

    def trail(self):
        found = []
        for number, pairs in enumerate(self.again):
            found.extend([(number, table, row) for table, row in pairs])
        return found

    def facts_told(self):
        return [self.by_name[name] for name in sorted(self.by_name)]

    def told(self):
        return [own_rows(told_behind(whys)) for whys in self.whys]

    def why(self, table, row):
        return list(self.whys[-1].get((table, row), []))
