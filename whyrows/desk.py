"""A desk, which is told rows and answers them (point 39)."""

from whyrows.errors import TooMuch
from whyrows.keeper import Keeper
from whyrows.ledger import Ledger
from whyrows.parts import ways_of
from whyrows.reckonings import Costs
from whyrows.sets import least, stoppers
from whyrows.signs import ask_text, ask_written, read_number, read_word
from whyrows.telling import asked
from whyrows.texts import read_atom, read_fact, read_place, read_rule, show_terms
from whyrows.whytexts import show_why

DEEDS = ("fact", "move", "drop")
QUESTIONS = ("why", "ways", "cost", "agree", "stop")
NONE = "none"
FIRST_PRICE = 1
MOST_WORDS_STOPPED = 8


def show_all(texts):
    return " ".join(texts) if texts != [] else NONE


def show_set(words):
    listed = " ".join(words)
    return "{" + listed + "}"


def show_accord(accord):
    return show_all([show_set(words) for words in accord])


def words_together(accord):
    found = {}
    for words in accord:
        for word in words:
            found[word] = True
    return len(found)


def stoppers_of(accord):
    if words_together(accord) > MOST_WORDS_STOPPED:
        raise TooMuch("the least sets have more than eight words together")
    return stoppers(accord)


def show_cost(cost):
    return "never" if cost is None else str(cost)


class Desk:
    def __init__(self, rounds):
        self.rounds = rounds
        self.rules = []
        self.keeper = Keeper([], [], rounds)
        self.ledger = Ledger(Costs())

    def say(self, row):
        ask_text(row)
        parts = row.partition(" ")
        ask_written(parts[1] == " ")
        word = parts[0]
        if word == "rule":
            return self.with_rule(parts[2])
        if word in DEEDS:
            return self.with_deed(word, parts[2])
        if word == "price":
            return self.with_price(parts[2])
        if word == "rows":
            return self.rows_asked(parts[2])
        ask_written(word in QUESTIONS)
        return self.told_of(word, parts[2])

    def with_rule(self, text):
        rules = self.rules + [read_rule(text)]
        keeper = Keeper(self.keeper.facts_told(), rules, self.rounds)
        # Not sooner than here, where nothing is refused any more.
        self.rules = rules
        self.keeper = keeper
        # A rule takes no row away, so all that stands now is all that is to be entered.
        for table, row, why in keeper.told()[-1]:
            self.ledger.enter(table, row, why)
        return "ok"

    def with_deed(self, word, text):
        changed = self.done(word, text)
        for table, row in changed:
            self.ledger.enter(table, row, self.keeper.why(table, row))
        many = len(changed)
        return f"{many} changed"

    def done(self, word, text):
        if word == "drop":
            return self.keeper.drop(text)
        fact = read_fact(text)
        if word == "move":
            return self.keeper.move(fact)
        changed = self.keeper.put(fact)
        if not self.ledger.has_price(fact[0]):
            self.ledger.price(fact[0], FIRST_PRICE)
        return changed

    def with_price(self, text):
        parts = text.split(" ")
        ask_written(len(parts) == 2)
        again = self.ledger.price(read_word(parts[0]), read_number(parts[1]))
        many = len(again)
        return f"{many} again"

    def rows_asked(self, text):
        atom = read_atom(text)
        return show_all([show_terms(row) for row, why in asked(self.keeper.told()[-1], atom)])

    def told_of(self, word, text):
        place = read_place(text)
        if word == "cost":
            return show_cost(self.ledger.worth(place[0], place[1]))
        why = self.keeper.why(place[0], place[1])
        if word == "why":
            return show_why(why)
        if word == "ways":
            return str(ways_of(why))
        if word == "agree":
            return show_accord(least(why))
        return show_accord(stoppers_of(least(why)))
