"""Whys: sums of products of names of facts (points 6, 7 and 8).

Products hold words alone, so Python's own order of texts and of tuples is that of point 5 here. It is used
in the place of row_key, since the product of two long whys has very many names.
"""

from whyrows.words import is_whole, is_word


def is_product(thing):
    if not isinstance(thing, tuple) or not all([is_word(name) for name in thing]):
        return False
    return list(thing) == sorted(thing)


def is_product_with_ways(thing):
    if not isinstance(thing, tuple) or len(thing) != 2:
        return False
    return is_product(thing[0]) and is_whole(thing[1]) and thing[1] >= 1


def is_why(thing):
    if not isinstance(thing, list) or not all([is_product_with_ways(pair) for pair in thing]):
        return False
    products = [pair[0] for pair in thing]
    return products == sorted(set(products))


def of_fact(name):
    return [((name,), 1)]


def count_in(ways_by_product, names, ways):
    product = tuple(sorted(names))
    ways_by_product[product] = ways_by_product.get(product, 0) + ways


def told_as_why(ways_by_product):
    return [(product, ways_by_product[product]) for product in sorted(ways_by_product) if ways_by_product[product] > 0]


def gathered(pairs):
    ways_by_product = {}
    for names, ways in pairs:
        count_in(ways_by_product, names, ways)
    return told_as_why(ways_by_product)


def plus(one, other):
    return gathered(one + other)


def times(one, other):
    ways_by_product = {}
    for names, ways in one:
        for more_names, more_ways in other:
            count_in(ways_by_product, names + more_names, ways * more_ways)
    return told_as_why(ways_by_product)
