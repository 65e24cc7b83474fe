import copy
import random
import unittest

from helpers import SIXTY_FIGURES, kept_in, spoil, within
from naive import in_naive_order, some_runs
from whyrows.errors import NoName, NoWorth, TooMuch
from whyrows.keeper import Keeper
from whyrows.ledger import Ledger
from whyrows.reckonings import Bests, Costs, Counts, Hands, Trusts, Truths
from whyrows.runs import run

MUCH = SIXTY_FIGURES
# For each reckoning some of its worths, and some things that are none.
RECKONINGS = [
    (Counts(), [0, 1, 3, 7, MUCH], [-1, -MUCH, True, False, None, "1", "", [], [1], (), (1,)]),
    (Costs(), [None, 0, -4, 5, MUCH, -MUCH], [True, False, "none", "1", [], [1], (), (None,)]),
    (Bests(), [[], [0], [-3, 5], [2, 2, 9], [MUCH]], [[1, 2, 3, 4], [2, 1], [True], [None], ["1"], (), (1,), 1, None]),
    (Bests(1), [[], [0], [-3], [MUCH]], [[1, 2], 1, (), None, [[]]]),
    (Trusts(), [0, 1, 50, 100], [-1, 101, True, None, "5", [5]]),
    (Trusts(MUCH), [0, 4, MUCH], [MUCH + 1, -1, False, None]),
    (Truths(), [False, True], [0, 1, None, "True", "", [], [True]]),
    (Hands(), [[], [()], [("x",)], [("x", "y"), ("z",)], [("y",), ("z",)]],
     [(), None, True, "x", [["x"]], ["x"], [("y", "x")], [("x", "x")], [("x",), ("x",)], [("x",), ("x", "y")],
      [("y",), ("x",)], [("X",)], [("",)], [(1,)]]),
]
WHY = [(("a", "a", "b"), 2), (("c",), 1)]
PLACES = [("p", ()), ("p", (9,)), ("p", (10,)), ("p", ("a10",)), ("p", ("a9",)), ("p2", (1, "b")), ("q", (-MUCH,))]


def naive_worth(why, by, prices):
    """Point 15, way by way where there are few, else by the reckoning's own repeating."""
    summed = by.nought()
    for product, ways in why:
        worth = by.unit()
        for name in product:
            worth = by.both(worth, prices[name])
        for number in range(ways if ways < 20 else 0):
            summed = by.either(summed, worth)
        if ways >= 20:
            summed = by.either(summed, by.repeated(worth, ways))
    return summed


class Model:
    """What a ledger should tell: everything is reckoned anew whenever it is asked."""

    def __init__(self, by):
        self.by, self.prices, self.whys = by, {}, {}

    def price(self, name, worth):
        self.prices[name] = copy.deepcopy(worth)
        return in_naive_order([pair for pair, why in self.whys.items() if any(name in product for product, w in why)])

    def enter(self, table, row, why):
        self.whys.pop((table, row), None)
        if why:
            self.whys[(table, row)] = copy.deepcopy(why)

    def worth(self, table, row):
        return naive_worth(self.whys.get((table, row), []), self.by, self.prices)

    def told(self):
        return [(table, row, self.worth(table, row)) for table, row in in_naive_order(self.whys)]


class LedgerTestCase(unittest.TestCase):
    def assert_refused(self, ledger, deed, *arguments):
        """Refused with NoWorth, and nothing is changed."""
        before = ledger.told()
        handed = copy.deepcopy(arguments)
        with self.assertRaises(NoWorth) as caught:
            getattr(ledger, deed)(*arguments)
        self.assertIs(caught.exception.__class__, NoWorth)
        self.assertEqual(arguments, handed)
        self.assertEqual(ledger.told(), before)

    def assert_same(self, answer, expected):
        """The same, and True for True alone."""
        self.assertEqual(repr(answer), repr(expected))

    def assert_alike(self, ledger, model):
        self.assert_same(ledger.told(), model.told())
        for table, row in PLACES:
            self.assert_same(ledger.worth(table, row), model.worth(table, row))


def with_prices(by, **prices):
    ledger = Ledger(by)
    for name, worth in prices.items():
        ledger.price(name, worth)
    return ledger


class WorthTest(LedgerTestCase):
    def test_of_a_new_ledger(self):
        for by, worths, others in RECKONINGS:
            ledger = Ledger(by)
            self.assertEqual(ledger.told(), [])
            self.assert_same(ledger.worth("p", ()), by.nought())
            self.assert_same(ledger.worth("p", (1, "a")), by.nought())

    def test_each_reckoning(self):
        for by, a, b, c, expected in [
            (Counts(), 2, 3, 5, 29), (Costs(), 2, 3, 5, 5), (Costs(), 2, 3, 9, 7), (Costs(), None, 3, 9, 9),
            (Costs(), None, 3, None, None), (Bests(), [1], [2], [5], [4, 4, 5]), (Bests(1), [1], [2], [5], [4]),
            (Bests(), [1, 2], [0], [9], [2, 2, 3]), (Trusts(), 40, 30, 20, 30), (Trusts(), 40, 30, 50, 50),
            (Truths(), True, False, False, False), (Truths(), True, True, False, True),
            (Truths(), False, True, True, True),
            (Hands(), [("x",)], [("y",)], [("z",)], [("x", "y"), ("z",)]),
            (Hands(), [("x",)], [("y",)], [("x",)], [("x",)]), (Hands(), [()], [()], [], [()]),
        ]:
            with self.subTest(by=by.__class__.__name__, expected=expected):
                ledger = with_prices(by, a=a, b=b, c=c)
                self.assertIs(ledger.enter("p", (1,), WHY), None)
                self.assert_same(ledger.worth("p", (1,)), expected)
                self.assert_same(ledger.told(), [("p", (1,), expected)])
                self.assert_same(ledger.worth("p", ()), by.nought())
                self.assert_same(ledger.worth("p", (1, 1)), by.nought())
                self.assert_same(ledger.worth("q", (1,)), by.nought())

    def test_a_why_that_needs_no_fact(self):
        for by, worths, others in RECKONINGS:
            ledger = Ledger(by)
            ledger.enter("p", (), [((), 1)])
            self.assert_same(ledger.worth("p", ()), by.unit())
            ledger.enter("p", (), [((), 2)])
            self.assert_same(ledger.told(), [("p", (), by.either(by.unit(), by.unit()))])

    def test_ways_of_sixty_figures(self):
        why = [((), MUCH), (("a",), MUCH), (("a", "b"), 1)]
        for by, a, b, expected in [
            (Counts(), MUCH, 2, MUCH + MUCH * MUCH + 2 * MUCH), (Costs(), -3, -4, -7), (Costs(), 3, MUCH, 0),
            (Bests(), [-2], [5], [-2, -2, -2]), (Bests(9), [5], [-1], [0] * 9), (Trusts(7), 3, 5, 7),
            (Truths(), False, False, True), (Hands(), [("x",)], [], [()]),
        ]:
            with self.subTest(by=by.__class__.__name__):
                ledger = with_prices(by, a=a, b=b)
                with within(20):
                    ledger.enter("p", (), why)
                    self.assert_same(ledger.worth("p", ()), expected)

    def test_a_pair_that_stands_at_nought(self):
        for by, worths, others in RECKONINGS:
            ledger = with_prices(by, a=by.nought())
            ledger.enter("p", (1,), [(("a",), 3)])
            self.assert_same(ledger.told(), [("p", (1,), by.nought())])
            self.assertEqual(ledger.price("a", by.unit()), [("p", (1,))])

    def test_told_in_order(self):
        for order in (PLACES, PLACES[::-1], PLACES[3:] + PLACES[:3]):
            ledger = with_prices(Counts(), a=2)
            for table, row in order:
                ledger.enter(table, row, [(("a",), 1)])
            self.assertEqual(ledger.told(), [(table, row, 2) for table, row in PLACES])
            self.assertEqual(ledger.price("a", 3), PLACES)
            self.assertEqual(ledger.told(), [(table, row, 3) for table, row in PLACES])


class EnterTest(LedgerTestCase):
    def test_in_the_place_of_another(self):
        ledger = with_prices(Counts(), a=2, b=3, c=5)
        ledger.enter("p", (1,), [(("a",), 1)])
        ledger.enter("p", (1,), [(("b", "c"), 2)])
        self.assertEqual(ledger.told(), [("p", (1,), 30)])
        self.assertEqual(ledger.price("a", 7), [])
        self.assertEqual(ledger.price("b", 1), [("p", (1,))])
        self.assertEqual(ledger.worth("p", (1,)), 10)
        ledger.enter("p", (1,), [(("a",), 1), (("c",), 1)])
        self.assertEqual(ledger.worth("p", (1,)), 12)
        self.assertEqual(ledger.price("b", 9), [])
        self.assertEqual(ledger.price("c", 1), [("p", (1,))])
        self.assertEqual(ledger.worth("p", (1,)), 8)

    def test_the_same_again(self):
        ledger = with_prices(Costs(), a=2, b=3, c=5)
        for number in range(3):
            ledger.enter("p", (1,), WHY)
            self.assertEqual(ledger.told(), [("p", (1,), 5)])
            self.assertEqual(ledger.price("a", 2), [("p", (1,))])

    def test_with_no_product(self):
        for by, worths, others in RECKONINGS:
            ledger = with_prices(by, a=worths[-1])
            # Where it doesn't stand.
            self.assertIs(ledger.enter("p", (1,), []), None)
            self.assertEqual(ledger.told(), [])
            ledger.enter("p", (1,), [(("a",), 1)])
            ledger.enter("p", (2,), [(("a",), 1)])
            # Where it does.
            self.assertIs(ledger.enter("p", (1,), []), None)
            self.assert_same(ledger.worth("p", (1,)), by.nought())
            self.assertEqual([told[:2] for told in ledger.told()], [("p", (2,))])
            self.assertEqual(ledger.price("a", worths[0]), [("p", (2,))])
            self.assert_same(ledger.worth("p", (1,)), by.nought())
            ledger.enter("p", (1,), [])
            self.assertEqual([told[:2] for told in ledger.told()], [("p", (2,))])
            ledger.enter("p", (1,), [(("a",), 1)])
            self.assertEqual([told[:2] for told in ledger.told()], [("p", (1,)), ("p", (2,))])

    def test_a_name_without_a_price(self):
        for by, worths, others in RECKONINGS:
            ledger = with_prices(by, a=worths[1])
            for why in [[(("b",), 1)], [(("a",), 1), (("b",), 1)], [((), 1), (("a", "a", "b"), MUCH)]]:
                self.assert_refused(ledger, "enter", "p", (1,), why)
                self.assert_same(ledger.worth("p", (1,)), by.nought())
                self.assertEqual(ledger.price("b" + "a", worths[0]), [])
            # Where the pair stood it stands as it did.
            ledger.enter("p", (1,), [(("a",), 1)])
            self.assert_refused(ledger, "enter", "p", (1,), [(("b",), 1)])
            self.assert_refused(ledger, "enter", "p", (1,), [(("a",), 1), (("b",), 1)])
            self.assert_same(ledger.told(), [("p", (1,), naive_worth([(("a",), 1)], by, {"a": worths[1]}))])
            self.assertEqual(ledger.price("b", worths[0]), [])
            self.assertEqual(ledger.price("a", worths[0]), [("p", (1,))])
            ledger.enter("p", (1,), [(("b",), 1)])
            self.assertEqual(ledger.price("b", worths[0]), [("p", (1,))])
            self.assertEqual(ledger.price("a", worths[0]), [])

    def test_no_name_needs_no_price(self):
        ledger = Ledger(Counts())
        ledger.enter("p", (), [((), 7)])
        ledger.enter("p", (1,), [])
        self.assertEqual(ledger.told(), [("p", (), 7)])


class PriceTest(LedgerTestCase):
    def test_a_name_that_no_why_bears(self):
        for by, worths, others in RECKONINGS:
            ledger = Ledger(by)
            for worth in worths:
                self.assertEqual(ledger.price("a", worth), [])
            ledger.enter("p", (), [((), 1), (("a", "a"), 1)])
            self.assertEqual(ledger.price("b", worths[0]), [])
            self.assertEqual(ledger.price("aa", worths[0]), [])

    def test_the_pairs_that_bear_it_in_order(self):
        ledger = with_prices(Counts(), a=2, b=3, c=5)
        bearing = {"a": [], "b": [], "c": []}
        whys = [[(("a",), 1)], [(("b", "c"), 1)], [((), 1)], [(("a",), 2), (("b", "b"), 1)], [(("a", "a", "c"), 1)],
                [(("c",), 1)], [(("a", "b"), 1), (("b",), 1), (("c", "c"), 4)]]
        for (table, row), why in reversed(list(zip(PLACES, whys))):
            ledger.enter(table, row, why)
        for pair, why in zip(PLACES, whys):
            for name in bearing:
                if any(name in product for product, ways in why):
                    bearing[name].append(pair)
        for name in "abccba":
            self.assertEqual(ledger.price(name, 7), bearing[name])
            self.assertEqual(ledger.price(name, 7), bearing[name])

    def test_set_anew(self):
        for by, worths, others in RECKONINGS:
            ledger = with_prices(by, a=worths[0], b=worths[1])
            ledger.enter("p", (1,), [(("a",), 1), (("b",), 1)])
            ledger.enter("p", (2,), [(("b",), 2)])
            prices = {"a": worths[0], "b": worths[1]}
            for name, worth in [(name, worth) for worth in worths + worths[::-1] for name in "ab"]:
                prices[name] = worth
                self.assertEqual(ledger.price(name, worth), [("p", (1,)),
                                                             ("p", (2,))] if name == "b" else [("p", (1,))])
                self.assert_same(ledger.told(), [
                    ("p", (1,), naive_worth([(("a",), 1), (("b",), 1)], by, prices)),
                    ("p", (2,), naive_worth([(("b",), 2)], by, prices))])

    def test_what_is_no_worth(self):
        for by, worths, others in RECKONINGS:
            ledger = with_prices(by, a=worths[1])
            ledger.enter("p", (1,), [(("a",), 1)])
            for thing in others:
                with self.subTest(by=by.__class__.__name__, thing=thing):
                    self.assert_refused(ledger, "price", "a", thing)
                    self.assert_refused(ledger, "price", "b", thing)
                    # The one has the price that it had, the other still has none.
                    self.assert_refused(ledger, "enter", "p", (2,), [(("b",), 1)])
                    ledger.enter("p", (2,), [(("a",), 1)])
                    self.assert_same(ledger.worth("p", (2,)), naive_worth([(("a",), 1)], by, {"a": worths[1]}))
                    ledger.enter("p", (2,), [])
                    self.assertEqual(ledger.price("a", worths[1]), [("p", (1,))])

    def test_no_other_pair_is_reckoned_again(self):
        class Watched(Costs):
            def __init__(self):
                self.seen = []

            def both(self, one, other):
                self.seen.append(other)
                return Costs.both(self, one, other)

        by = Watched()
        ledger = with_prices(by, a=100, b=200, c=300, d=400)
        ledger.enter("p", (1,), [(("a", "b"), 1)])
        ledger.enter("p", (2,), [(("c",), 1)])
        ledger.enter("p", (3,), [(("c", "d"), 1)])
        for name, price, let_by in [("a", 101, {101, 200}), ("c", 303, {303, 400}), ("d", 404, {303, 404}),
                                    ("e", 1, set())]:
            by.seen.clear()
            ledger.price(name, price)
            self.assertLessEqual(set(by.seen), let_by)
        self.assertEqual(ledger.told(), [("p", (1,), 301), ("p", (2,), 303), ("p", (3,), 707)])


class OwnAnswersTest(LedgerTestCase):
    def test_what_is_handed_in_stays(self):
        for by, worths, others in RECKONINGS:
            ledger = Ledger(by)
            for worth in worths:
                handed = [copy.deepcopy(worth), copy.deepcopy(WHY)]
                for name in "abc":
                    ledger.price(name, handed[0])
                ledger.enter("p", (1,), handed[1])
                ledger.price("a", handed[0])
                ledger.worth("p", (1,))
                ledger.told()
                ledger.enter("p", (1,), [])
                self.assert_same(handed, [worth, WHY])

    def test_a_change_of_what_was_handed_in(self):
        for by, prices in [(Bests(), ([1, 4], [2], [5])), (Hands(), ([("x",), ("y",)], [("y",)], [("z",)]))]:
            handed, why = copy.deepcopy(prices), copy.deepcopy(WHY)
            ledger, model = Ledger(by), Model(by)
            for name, worth, kept in zip("abc", handed, prices):
                ledger.price(name, worth)
                model.price(name, kept)
            ledger.enter("p", (), why)
            model.enter("p", (), WHY)
            spoil(list(handed))
            spoil(why)
            why.clear()
            self.assert_alike(ledger, model)
            # Also where it is reckoned again, by the prices and the why that were kept.
            self.assertEqual(ledger.price("a", list(prices[0])), [("p", ())])
            self.assertEqual(ledger.price("b", []), [("p", ())])
            model.price("b", [])
            self.assert_alike(ledger, model)
            ledger.enter("p", (9,), [(("c",), 1)])
            model.enter("p", (9,), [(("c",), 1)])
            self.assert_alike(ledger, model)

    def test_one_list_as_two_prices(self):
        for by, worth, more in [(Bests(), [1], 2), (Hands(), [("x",)], ("y",))]:
            ledger = Ledger(by)
            same = list(worth)
            ledger.price("a", same)
            ledger.price("b", same)
            ledger.enter("p", (), [(("a", "b"), 1)])
            before = copy.deepcopy(ledger.worth("p", ()))
            same.append(more)
            ledger.price("c", same)
            ledger.price("a", worth)
            self.assertEqual(ledger.worth("p", ()), before)

    def test_a_change_of_what_was_told(self):
        for by, worth in [(Bests(), [1, 4]), (Bests(), []), (Hands(), [("x",), ("y",)]), (Hands(), [()]),
                          (Hands(), [])]:
            ledger, model = Ledger(by), Model(by)
            for kept in (ledger, model):
                kept.price("a", list(worth))
                kept.enter("p", (9,), [(("a",), 1)])
                kept.enter("p", (10,), [(("a",), 1)])
            for number in range(2):
                for thing in [ledger.worth("p", (9,)), ledger.worth("p", ()), ledger.told(), ledger.price("a", worth)]:
                    spoil(thing)
                    self.assert_alike(ledger, model)

    def test_what_was_told_stays(self):
        for by, worths, others in RECKONINGS:
            ledger = with_prices(by, a=worths[0])
            ledger.enter("p", (1,), [(("a",), 1)])
            told = [ledger.told(), ledger.worth("p", (1,)), ledger.worth("p", ()), ledger.price("a", worths[0])]
            before = copy.deepcopy(told)
            for worth in worths:
                ledger.price("a", worth)
                ledger.enter("p", (1,), [(("a",), 2)])
                ledger.enter("p", (), [(("a",), 2)])
                self.assert_same(told, before)
            ledger.enter("p", (1,), [])
            self.assert_same(told, before)

    def test_no_list_at_two_places(self):
        for by, worth in [(Bests(), [1, 4]), (Hands(), [("x",)]), (Bests(), []), (Hands(), [])]:
            ledger = Ledger(by)
            handed = list(worth)
            ledger.price("a", handed)
            for table, row in PLACES:
                ledger.enter(table, row, [(("a",), 1)])
            answers = [ledger.told(), ledger.told(), ledger.worth("p", ()), ledger.worth("p", ()),
                       ledger.worth("z", ()), ledger.worth("z", ()), ledger.price("a", handed),
                       ledger.price("a", handed), handed]
            places = [id(kept) for kept in kept_in(answers)]
            self.assertEqual(len(set(places)), len(places))
            for part in ledger.told():
                self.assertIs(part.__class__, tuple)
            for pair in ledger.price("a", handed):
                self.assertIs(pair.__class__, tuple)

    def test_two_ledgers_side_by_side(self):
        by = Counts()
        one, other = with_prices(by, a=2, b=3), with_prices(by, a=5)
        why = [(("a",), 1)]
        one.enter("p", (1,), why)
        other.enter("p", (1,), why)
        other.enter("p", (2,), why)
        self.assertEqual(one.told(), [("p", (1,), 2)])
        self.assertEqual(other.told(), [("p", (1,), 5), ("p", (2,), 5)])
        self.assertEqual(one.price("a", 7), [("p", (1,))])
        self.assertEqual(other.worth("p", (1,)), 5)
        self.assert_refused(other, "enter", "p", (1,), [(("b",), 1)])
        one.enter("p", (1,), [])
        self.assertEqual(one.told(), [])
        self.assertEqual(other.told(), [("p", (1,), 5), ("p", (2,), 5)])


def drawn_why(chance, names):
    products = {tuple(sorted(chance.choices(names, k=chance.randrange(4)))) for number in range(chance.randrange(4))}
    return [(product, chance.choice([1, 1, 2, 3, 15, MUCH])) for product in sorted(products)]


class ManyTest(LedgerTestCase):
    def test_drawn_rows_of_deeds(self):
        chance = random.Random(36)
        refused = 0
        for step in range(240):
            by, worths, others = RECKONINGS[step % len(RECKONINGS)]
            ledger, model = Ledger(by), Model(by)
            for number in range(25):
                name = chance.choice("abcd")
                if chance.randrange(3) == 0:
                    worth = chance.choice(worths)
                    self.assertEqual(ledger.price(name, copy.deepcopy(worth)), model.price(name, worth))
                elif chance.randrange(8) == 0:
                    refused += 1
                    self.assert_refused(ledger, "price", name, chance.choice(others))
                else:
                    (table, row), why = chance.choice(PLACES), drawn_why(chance, "abcd")
                    if all(name in model.prices for product, ways in why for name in product):
                        self.assertIs(ledger.enter(table, row, copy.deepcopy(why)), None)
                        model.enter(table, row, why)
                    else:
                        refused += 1
                        self.assert_refused(ledger, "enter", table, row, why)
                self.assert_alike(ledger, model)
        self.assertGreater(refused, 500)

    def test_long_whys_and_many_pairs(self):
        names = ["n" + str(number) for number in range(300)]
        why = [((name,), 1) for name in sorted(names)]
        with within(60):
            ledger = Ledger(Costs())
            for number, name in enumerate(names):
                ledger.price(name, number + 5)
            for number in range(60):
                ledger.enter("p", (number,), why)
            for number in range(300):
                ledger.enter("q", (number,), [(("n7",), 1)])
            self.assertEqual(len(ledger.price("n7", -1)), 360)
            self.assertEqual(len(ledger.price("n8", 2)), 60)
            self.assertEqual({worth for table, row, worth in ledger.told()}, {-1})

    def test_beside_a_keeper(self):
        """Point 3: the worths that a ledger keeps are those of a new run over the facts that stand."""
        chance = random.Random(37)
        deeds = 0
        for step, (facts, rules, rounds, expected) in enumerate(some_runs(36, 320)):
            if expected is None:
                continue
            by, worths, others = RECKONINGS[step % len(RECKONINGS)]
            prices = {name: chance.choice(worths) for name in "abcdefgh"}
            keeper, ledger = Keeper(facts, rules, rounds), Ledger(by)
            for name, worth in prices.items():
                ledger.price(name, worth)
            for table, row, why in keeper.told()[-1]:
                ledger.enter(table, row, why)
            for number in range(8):
                deed, name = chance.choice(["put", "put", "drop", "move", "price"]), chance.choice("abcdefgh")
                if deed == "price":
                    prices[name] = chance.choice(worths)
                    bearing = [(table, row) for table, row, why in keeper.told()[-1]
                               if any(name in product for product, ways in why)]
                    self.assertEqual(ledger.price(name, prices[name]), bearing)
                else:
                    fact = (name, chance.choice("pq"), (chance.choice([1, 2, 3]),))
                    try:
                        changed = getattr(keeper, deed)(name if deed == "drop" else fact)
                    except (NoName, TooMuch):
                        continue
                    for table, row in changed:
                        ledger.enter(table, row, keeper.why(table, row))
                    deeds += 1
                self.assert_same(ledger.told(), run(keeper.facts_told(), rules, rounds, by, prices)[-1])
        self.assertGreater(deeds, 400)


if __name__ == "__main__":
    unittest.main()
