"""What is asked of a run that was told, and where it has settled (point 26)."""

from whyrows.matching import matched
from whyrows.orders import row_key


def own(worth):
    # The worths that are lists, and whys, have nothing but tuples in them: so this is the asker's own throughout.
    return list(worth) if isinstance(worth, list) else worth


def is_asked(atom, table, row):
    return table == atom[0] and matched(atom[1], row, {}) is not None


def asked(told, atom):
    found = [(row, own(worth)) for table, row, worth in told if is_asked(atom, table, row)]
    return sorted(found, key=lambda pair: row_key(pair[0]))


def settled(told):
    for number, behind in enumerate(told[1:]):
        if told[number] == behind:
            return number
    return None
