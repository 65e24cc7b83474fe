"""Trees of rules and facts: their leaves, their height, and where they lead (points 27 and 28)."""

from whyrows.joins import all_hold
from whyrows.matching import matched, put_in


def is_name(tree):
    return isinstance(tree, str)


def leaves(tree):
    found = []
    waiting = [tree]
    while len(waiting) > 0:
        part = waiting.pop()
        if is_name(part):
            found.append(part)
        else:
            waiting.extend(part[2])
    return tuple(sorted(found))


def height(tree):
    if is_name(tree):
        return 0
    return 1 + max([height(kid) for kid in tree[2]], default=0)


def is_instance(rule, row, used):
    binding = {}
    for atom, used_row in zip(rule[1], used):
        binding = matched(atom[1], used_row, binding)
        if binding is None:
            return False
    return all_hold(rule[2], binding) and put_in(rule[0][1], binding) == row


def used_by(places, rules, body, kids):
    # The rows to which the kids lead, each in its atom's table, or None.
    used = []
    for atom, kid in zip(body, kids):
        place = place_of(places, rules, kid)
        if place is None or place[0] != atom[0]:
            return None
        used.append(place[1])
    return tuple(used)


def place_of(places, rules, tree):
    if is_name(tree):
        return places.get(tree, None)
    number = tree[0]
    if not 0 <= number < len(rules):
        return None
    rule = rules[number]
    if len(rule[1]) != len(tree[2]):
        return None
    used = used_by(places, rules, rule[1], tree[2])
    if used is None or not is_instance(rule, tree[1], used):
        return None
    return (rule[0][0], tree[1])


def leads_to(facts, rules, tree):
    places = dict([(name, (table, row)) for name, table, row in facts])
    return place_of(places, rules, tree)
