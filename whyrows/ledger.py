"""A ledger of prices, and of rows with whys, which are reckoned by these prices (point 36)."""

from whyrows.errors import NoWorth
from whyrows.orders import pairs_in_order
from whyrows.parts import names_of
from whyrows.telling import own
from whyrows.worths import reckoned


class Ledger:
    def __init__(self, by):
        self.by = by
        self.prices = {}
        self.whys = {}
        self.worths = {}
        # By each name the pairs whose why bears it: a price looks at no other ones.
        self.bearers = {}

    def has_price(self, name):
        return name in self.prices

    def price(self, name, worth):
        if not self.by.fits(worth):
            raise NoWorth(f"this is no price for {name} by this reckoning")
        self.prices[name] = own(worth)
        bearers = pairs_in_order(self.bearers.get(name, {}))
        for pair in bearers:
            self.worths[pair] = reckoned(self.whys[pair], self.by, self.prices)
        return bearers

    def enter(self, table, row, why):
        # First, since it may be refused.
        worth = reckoned(why, self.by, self.prices)
        pair = (table, row)
        if pair in self.whys:
            self.take_out(pair)
        if why != []:
            self.take_in(pair, list(why), worth)

    def take_out(self, pair):
        for name in names_of(self.whys[pair]):
            self.bearers[name].pop(pair)
        self.whys.pop(pair)
        self.worths.pop(pair)

    def take_in(self, pair, why, worth):
        self.whys[pair] = why
        self.worths[pair] = worth
        for name in names_of(why):
            pairs = self.bearers.setdefault(name, {})
            pairs[pair] = True

    def worth(self, table, row):
        return own(self.worths.get((table, row), self.by.nought()))

    def told(self):
        return [(table, row, self.worth(table, row)) for table, row in pairs_in_order(self.worths)]
