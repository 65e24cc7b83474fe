"""What is told of a why, parts of it, and a why filled with whys (points 9 and 10)."""

from whyrows.whys import gathered, of_fact, times


def ways_of(why):
    return sum([ways for product, ways in why])


def names_of(why):
    found = {}
    for product, ways in why:
        for name in product:
            found[name] = True
    return sorted(found)


def degree(why):
    return max([len(product) for product, ways in why], default=0)


def has_any(product, names):
    return any([name in names for name in product])


def without(why, names):
    # A dict, since a long why asks very often whether a name is among them.
    unwanted = dict([(name, True) for name in names])
    return [pair for pair in why if not has_any(pair[0], unwanted)]


def bearing(why, name):
    return [pair for pair in why if name in pair[0]]


def product_filled(product, ways, whys):
    # Gathered at each factor (by times), so that what comes out alike doesn't grow with the number of factors.
    so_far = [((), ways)]
    for name in product:
        so_far = times(so_far, whys.get(name, of_fact(name)))
    return so_far


def filled(why, whys):
    pairs = []
    for product, ways in why:
        pairs.extend(product_filled(product, ways, whys))
    return gathered(pairs)
