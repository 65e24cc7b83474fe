"""Sets of words, accords, and what is made of them (points 11, 12 and 13).

A tree of words holds many sets: each way down from its top is one, word by word in order, and END stands where it
ends. To ask the tree whether one of them lies within a set is far quicker than to ask one by one, and the accord of
two long accords comes of very many sets.
"""

from whyrows.words import is_word

# No word is empty, so this one is free to mark an end.
END = ""


def is_tuple_of_words(thing):
    return isinstance(thing, tuple) and all([is_word(part) for part in thing])


def is_accord(thing):
    if not isinstance(thing, list) or not all([is_tuple_of_words(part) for part in thing]):
        return False
    # What thinning leaves as it is has its words and its sets in order, and none within another.
    return thing == thinned(thing)


def put_into(tree, words):
    node = tree
    for word in words:
        node = node.setdefault(word, {})
    node[END] = {}


def kids_within(node, members):
    # The shorter one is walked: near its top a tree is far wider than a set, further down mostly narrower.
    if len(node) < len(members):
        return [node[word] for word in node if word in members]
    return [node[word] for word in members if word in node]


def has_one_within(tree, words):
    members = dict([(word, True) for word in words])
    nodes = [tree]
    while len(nodes) > 0:
        node = nodes.pop()
        if END in node:
            return True
        nodes.extend(kids_within(node, members))
    return False


def once_by_size(sets):
    once = {}
    for words in sets:
        once[tuple(sorted(set(words)))] = True
    by_size = {}
    for words in once:
        by_size.setdefault(len(words), []).append(words)
    return by_size


def thinned(sets):
    by_size = once_by_size(sets)
    smaller = {}
    kept = []
    # Sets of one size never lie within one another, so each is asked of the smaller ones alone.
    for size in sorted(by_size):
        least_here = [words for words in by_size[size] if not has_one_within(smaller, words)]
        for words in least_here:
            put_into(smaller, words)
        kept.extend(least_here)
    return sorted(kept)


def agreed(one, other):
    together = []
    for words in one:
        together.extend([words + more_words for more_words in other])
    return thinned(together)


def stoppers(accord):
    # To stop one set is to have any one of its words; to stop all of them is to agree on each of these.
    stopping = [()]
    for words in accord:
        stopping = agreed(stopping, [(word,) for word in words])
    return stopping


def least(why):
    return thinned([product for product, ways in why])
