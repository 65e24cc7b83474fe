"""The six reckonings, each with worths of its own (point 14)."""

from whyrows.sets import agreed, is_accord, thinned
from whyrows.words import is_whole


class Reckoning:
    def repeated(self, worth, many):
        # Enough where either of a worth with itself is this worth again: all but Counts and Bests.
        if many == 0:
            return self.nought()
        return self.either(worth, worth)


class Counts(Reckoning):
    def fits(self, thing):
        return is_whole(thing) and thing >= 0

    def nought(self):
        return 0

    def unit(self):
        return 1

    def either(self, one, other):
        return one + other

    def both(self, one, other):
        return one * other

    def repeated(self, worth, many):
        return worth * many


class Costs(Reckoning):
    def fits(self, thing):
        return thing is None or is_whole(thing)

    def nought(self):
        return None

    def unit(self):
        return 0

    def either(self, one, other):
        if one is None:
            return other
        if other is None:
            return one
        return min(one, other)

    def both(self, one, other):
        if one is None or other is None:
            return None
        return one + other


class Bests(Reckoning):
    def __init__(self, many=3):
        self.most = many

    def least_ones(self, numbers):
        return sorted(numbers)[:self.most]

    def fits(self, thing):
        if not isinstance(thing, list) or len(thing) > self.most:
            return False
        return all([is_whole(part) for part in thing]) and thing == sorted(thing)

    def nought(self):
        return []

    def unit(self):
        return [0]

    def either(self, one, other):
        return self.least_ones(one + other)

    def both(self, one, other):
        sums = []
        for number in one:
            sums.extend([number + more for more in other])
        return self.least_ones(sums)

    def repeated(self, worth, many):
        # Of one number no more can be told than the most, however often it stands there.
        return self.least_ones(worth * min(many, self.most))


class Trusts(Reckoning):
    def __init__(self, top=100):
        self.top = top

    def fits(self, thing):
        return is_whole(thing) and 0 <= thing <= self.top

    def nought(self):
        return 0

    def unit(self):
        return self.top

    def either(self, one, other):
        return max(one, other)

    def both(self, one, other):
        return min(one, other)


class Truths(Reckoning):
    def fits(self, thing):
        return isinstance(thing, bool)

    def nought(self):
        return False

    def unit(self):
        return True

    def either(self, one, other):
        return one or other

    def both(self, one, other):
        return one and other


class Hands(Reckoning):
    def fits(self, thing):
        return is_accord(thing)

    def nought(self):
        return []

    def unit(self):
        return [()]

    def either(self, one, other):
        return thinned(one + other)

    def both(self, one, other):
        return agreed(one, other)
