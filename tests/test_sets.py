import copy
import itertools
import random
import unittest

from helpers import SIXTY_FIGURES, HandedOver
from whyrows.sets import agreed, least, stoppers, thinned
from whyrows.words import is_word

SOME_ACCORDS = [
    [], [()], [("a",)], [("b",)], [("a",), ("b",)], [("a", "b")], [("a", "b"), ("a", "c"), ("b", "c")],
    [("a", "b", "c"), ("d",)], [("a", "d"), ("b", "c")], [("a9",), ("aa",), ("ab", "b")],
]


def slowly_thinned(sets):
    """The same by another way: each set is asked against each other one."""
    taken = {frozenset(words) for words in sets}
    kept = [words for words in taken if not any(other < words for other in taken)]
    return sorted([tuple(sorted(words)) for words in kept])


def slowly_agreed(one, other):
    return slowly_thinned([set(words) | set(more) for words in one for more in other])


def slowly_stoppers(accord):
    """The same by another way: of all sets of its words those that stop it, thinned."""
    words = sorted({word for words in accord for word in words})
    stopping = []
    for many in range(len(words) + 1):
        for chosen in itertools.combinations(words, many):
            if all(set(chosen) & set(hands) for hands in accord):
                stopping.append(chosen)
    return slowly_thinned(stopping)


def subsets(words):
    return [chosen for many in range(len(words) + 1) for chosen in itertools.combinations(words, many)]


def all_accords(words):
    """Every accord of these words."""
    found = [[]]
    for hands in subsets(words):
        found += [accord + [hands] for accord in found
                  if not any(set(hands) <= set(other) or set(other) <= set(hands) for other in accord)]
    return [sorted(accord) for accord in found]


def some_accord(chance, words, most_sets):
    return slowly_thinned([chance.sample(words, chance.randint(1, len(words) - 1))
                           for hands in range(chance.randrange(most_sets))])


class SetsTestCase(unittest.TestCase, HandedOver):
    def assert_accord(self, told):
        self.assertIs(told.__class__, list)
        for words in told:
            self.assertIs(words.__class__, tuple)
            self.assertTrue(all(is_word(word) for word in words))
            self.assertEqual(list(words), sorted(set(words)))
        self.assertEqual(told, sorted(set(told)))
        for one, other in itertools.permutations(told[:50], 2):
            self.assertFalse(set(one) <= set(other))

    def assert_own_accord(self, call, arguments, expected):
        with self.subTest(arguments=repr(arguments)[:80]):
            self.assert_own_answer(call, lambda: copy.deepcopy(arguments), expected)
            self.assert_accord(call(*copy.deepcopy(arguments)))


class ThinnedTest(SetsTestCase):
    def assert_thinned(self, sets, expected):
        self.assert_own_accord(thinned, (sets,), expected)

    def test_no_sets(self):
        self.assert_thinned([], [])

    def test_the_empty_set(self):
        for empty in ((), []):
            self.assert_thinned([empty], [()])
            self.assert_thinned([empty, empty], [()])
            self.assert_thinned([empty, ("a",)], [()])
            self.assert_thinned([["b", "a"], ("c",), empty, ("a",)], [()])

    def test_one_set_as_a_list_and_as_a_tuple(self):
        self.assert_thinned([["b", "a"]], [("a", "b")])
        self.assert_thinned([("b", "a")], [("a", "b")])
        self.assert_thinned([["c", "a", "b"], ("d", "a")], [("a", "b", "c"), ("a", "d")])

    def test_a_word_several_times(self):
        self.assert_thinned([["a", "a"]], [("a",)])
        self.assert_thinned([("b", "a", "b", "a", "b")], [("a", "b")])
        self.assert_thinned([["a", "a", "a"], ("a", "b"), ["c", "c"]], [("a",), ("c",)])
        self.assert_thinned([["a", "a", "a", "b"], ("c", "b", "a")], [("a", "b")])

    def test_equal_sets(self):
        self.assert_thinned([("a",), ("a",)], [("a",)])
        self.assert_thinned([("a", "b"), ["b", "a"], ("b", "a", "a")], [("a", "b")])
        self.assert_thinned([["c"], ("a", "b"), ["c"], ["b", "a"]], [("a", "b"), ("c",)])

    def test_a_set_within_another_one(self):
        self.assert_thinned([("a", "b"), ("a",)], [("a",)])
        self.assert_thinned([("a",), ("a", "b")], [("a",)])
        self.assert_thinned([("a", "b", "c"), ("b",)], [("b",)])
        self.assert_thinned([("a", "b", "c"), ("c",)], [("c",)])
        self.assert_thinned([("a", "b", "c"), ("a", "c"), ("c", "d")], [("a", "c"), ("c", "d")])
        self.assert_thinned([("a", "b", "c", "d"), ("a", "b", "c"), ("a", "b"), ("a",)], [("a",)])
        self.assert_thinned([("b", "c"), ("a", "b", "c"), ("a", "b")], [("a", "b"), ("b", "c")])

    def test_sets_that_only_meet_stay(self):
        self.assert_thinned([("b", "c"), ("a", "c"), ("a", "b")], [("a", "b"), ("a", "c"), ("b", "c")])
        self.assert_thinned([("a",), ("b", "c"), ("d", "e", "f")], [("a",), ("b", "c"), ("d", "e", "f")])
        self.assert_thinned([("a", "b", "c"), ("a", "d")], [("a", "b", "c"), ("a", "d")])
        self.assert_thinned([("ab",), ("a", "b")], [("a", "b"), ("ab",)])

    def test_sets_come_in_order(self):
        expected = [("a", "b", "z"), ("a", "c"), ("a9",), ("aa",), ("ab", "b"), ("b", "c")]
        for step in (1, 5):
            self.assert_thinned([expected[place * step % 6][::-1] for place in range(6)], expected)

    def test_an_accord_stays(self):
        for accord in SOME_ACCORDS + all_accords("abcd"):
            self.assert_thinned(accord, accord)

    def test_all_few_sets_against_another_way(self):
        for many in range(4):
            for sets in itertools.product(subsets("abcd"), repeat=many):
                self.assertEqual(thinned(list(sets)), slowly_thinned(sets))

    def test_many_sets_against_another_way(self):
        chance = random.Random(12)
        for step in range(300):
            words = ["w" + str(number) for number in range(chance.choice([3, 6, 9, 30]))]
            sets = [chance.choices(words, k=chance.randrange(8)) for hands in range(chance.randrange(60))]
            self.assertEqual(thinned(sets), slowly_thinned(sets))

    def test_three_hundred_sets_of_three_hundred_words(self):
        words = ["w" + str(number) for number in range(100, 400)]
        begins = [words[:many] for many in range(300, 0, -1)]
        self.assertEqual(thinned(begins), [("w100",)])
        all_but_one = [words[:place] + words[place + 1:] for place in range(300)]
        self.assertEqual(thinned(all_but_one), [tuple(hands) for hands in reversed(all_but_one)])
        self.assertEqual(thinned(all_but_one + [words]), [tuple(hands) for hands in reversed(all_but_one)])


class AgreedTest(SetsTestCase):
    def assert_agreed(self, one, other, expected):
        self.assert_own_accord(agreed, (one, other), expected)
        self.assert_own_accord(agreed, (other, one), expected)

    def test_no_hands_can_bring_about_the_one(self):
        for accord in SOME_ACCORDS:
            self.assert_agreed([], accord, [])

    def test_the_one_needs_no_hands(self):
        for accord in SOME_ACCORDS:
            self.assert_agreed([()], accord, accord)

    def test_each_set_with_each(self):
        self.assert_agreed([("a",)], [("b",)], [("a", "b")])
        self.assert_agreed([("a",), ("b",)], [("c",), ("d",)], [("a", "c"), ("a", "d"), ("b", "c"), ("b", "d")])
        self.assert_agreed([("b", "c")], [("a", "d"), ("e",)], [("a", "b", "c", "d"), ("b", "c", "e")])

    def test_words_in_common_stand_once(self):
        self.assert_agreed([("a", "b")], [("b", "c")], [("a", "b", "c")])
        self.assert_agreed([("a", "b")], [("a", "b")], [("a", "b")])

    def test_thinned(self):
        self.assert_agreed([("a",), ("b",)], [("a",), ("c",)], [("a",), ("b", "c")])
        self.assert_agreed([("a",), ("b",)], [("a",)], [("a",)])
        self.assert_agreed([("a", "b"), ("c",)], [("a",), ("b", "c")], [("a", "b"), ("a", "c"), ("b", "c")])

    def test_an_accord_with_itself(self):
        for accord in SOME_ACCORDS + all_accords("abc"):
            same = list(accord)
            self.assertEqual(agreed(same, same), accord)
            self.assertEqual(same, accord)

    def test_all_few_against_another_way(self):
        for one, other in itertools.product(SOME_ACCORDS + all_accords("abc"), repeat=2):
            self.assert_own_accord(agreed, (one, other), slowly_agreed(one, other))

    def test_many_against_another_way(self):
        chance = random.Random(13)
        for step in range(100):
            words = ["w" + str(number) for number in range(chance.choice([4, 7, 12]))]
            one, other = some_accord(chance, words, 12), some_accord(chance, words, 12)
            self.assertEqual(agreed(one, other), slowly_agreed(one, other))

    def test_long_accords(self):
        one = [("a" + str(number),) for number in range(100, 400)]
        other = [("b" + str(number),) for number in range(100, 400)]
        told = agreed(other, one)
        self.assertEqual(told, [left + right for left in one for right in other])
        self.assertEqual(thinned(told), told)
        self.assertEqual(agreed(one, one), one)


class StoppersTest(SetsTestCase):
    def assert_stoppers(self, accord, expected):
        self.assert_own_accord(stoppers, (accord,), expected)

    def test_the_two_edges(self):
        self.assert_stoppers([], [()])
        self.assert_stoppers([()], [])

    def test_few_words(self):
        self.assert_stoppers([("a",)], [("a",)])
        self.assert_stoppers([("a", "b")], [("a",), ("b",)])
        self.assert_stoppers([("a",), ("b",)], [("a", "b")])
        self.assert_stoppers([("a", "b"), ("c",)], [("a", "c"), ("b", "c")])
        self.assert_stoppers([("a", "b"), ("b", "c")], [("a", "c"), ("b",)])
        self.assert_stoppers([("a", "b"), ("a", "c"), ("b", "c")], [("a", "b"), ("a", "c"), ("b", "c")])

    def test_eight_words(self):
        words = "abcdefgh"
        self.assert_stoppers([tuple(words)], [(word,) for word in words])
        self.assert_stoppers([(word,) for word in words], [tuple(words)])
        pairs = [("a", "b"), ("c", "d"), ("e", "f"), ("g", "h")]
        self.assert_stoppers(pairs, sorted(itertools.product(*pairs)))
        for many in range(1, 9):
            self.assert_stoppers(list(itertools.combinations(words, many)),
                                 list(itertools.combinations(words, 9 - many)))

    def test_every_accord_of_four_words(self):
        for accord in all_accords("abcd"):
            told = stoppers(accord)
            self.assertEqual(told, slowly_stoppers(accord))
            self.assertEqual(stoppers(told), accord)

    def test_accords_of_up_to_eight_words(self):
        chance = random.Random(14)
        for step in range(150):
            accord = some_accord(chance, list("abcdefgh")[:chance.randint(2, 8)], 14)
            told = stoppers(accord)
            self.assertEqual(told, slowly_stoppers(accord))
            self.assert_accord(told)
            self.assertEqual(stoppers(told), accord)

    def test_the_list_is_the_askers_own(self):
        for accord in SOME_ACCORDS:
            self.assert_stoppers(accord, slowly_stoppers(accord))


class LeastTest(SetsTestCase):
    def assert_least(self, why, expected):
        self.assert_own_accord(least, (why,), expected)

    def test_no_product_and_the_product_of_no_facts(self):
        self.assert_least([], [])
        self.assert_least([((), 1)], [()])
        self.assert_least([((), SIXTY_FIGURES), (("a",), 1)], [()])

    def test_products_taken_as_sets(self):
        self.assert_least([(("a",), 1)], [("a",)])
        self.assert_least([(("a", "b"), 2), (("c",), 1)], [("a", "b"), ("c",)])

    def test_a_name_several_times_in_a_product(self):
        self.assert_least([(("a", "a"), 1)], [("a",)])
        self.assert_least([(("a", "a", "b"), 1), (("a", "b", "b"), 1)], [("a", "b")])
        self.assert_least([(("a", "a", "a"), 1), (("a", "b"), 1), (("b", "c", "c"), 1)], [("a",), ("b", "c")])
        self.assert_least([(("a", "a", "b", "b", "b"), 1), (("a", "b", "c"), 1)], [("a", "b")])

    def test_thinned(self):
        self.assert_least([(("a",), 1), (("a", "b"), 5), (("b", "c"), SIXTY_FIGURES)], [("a",), ("b", "c")])
        self.assert_least([(("a", "b", "c"), 1), (("a", "c"), 1), (("b",), 1)], [("a", "c"), ("b",)])

    def test_long_products(self):
        why = [(tuple(["a"] * many + ["b"] * (300 - many)), 1) for many in range(300, 0, -1)]
        self.assert_least(why, [("a",)])
        self.assert_least(why[1:], [("a", "b")])


if __name__ == "__main__":
    unittest.main()
