"""Which value, which row and which pair (table, row) comes before another (point 5)."""

from whyrows.words import is_whole


def value_key(value):
    # Python has no order between numbers and texts: the first part keeps the two from ever meeting.
    if is_whole(value):
        return (0, value, "")
    # Python's own order of texts is the one asked for, since words hold figures and small letters alone.
    return (1, 0, value)


def row_key(row):
    return tuple([value_key(value) for value in row])


def value_before(one, other):
    return value_key(one) < value_key(other)


def row_before(one, other):
    return row_key(one) < row_key(other)


def in_order(rows):
    once = {}
    for row in rows:
        once[row] = True
    return sorted(once, key=row_key)


def pair_key(pair):
    return (pair[0], row_key(pair[1]))


def pairs_in_order(pairs):
    return sorted(pairs, key=pair_key)
