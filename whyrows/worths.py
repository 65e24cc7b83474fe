"""A why reckoned into a worth (point 15)."""

from whyrows.errors import NoWorth
from whyrows.parts import names_of


def ask_worths(names, by, worths):
    for name in names:
        if name not in worths or not by.fits(worths[name]):
            raise NoWorth(f"{name} has no worth of this reckoning")


def product_reckoned(product, by, worths):
    worth = by.unit()
    for name in product:
        worth = by.both(worth, worths[name])
    return worth


def reckoned(why, by, worths):
    # All names first: a refusal doesn't wait for what is reckoned.
    ask_worths(names_of(why), by, worths)
    worth = by.nought()
    for product, ways in why:
        worth = by.either(worth, by.repeated(product_reckoned(product, by, worths), ways))
    return worth
