"""Points 9 to 11, 50, 53 and 73: what goods can cost at clearing prices, and clearing prices with a given cost."""

from fractions import Fraction

from bundlekinds.clearing import check_clearing, marginal_prices
from bundlekinds.errors import BadPrice, BadUnit, UnknownName
from bundlekinds.levels import cost_range, least_prices, prices_with
from bundlekinds.markets import Market
from bundlekinds.prices import Prices
from bundlekinds.tables import Table
from tests.samples import FIVE, Case, chance_of, no_integers
from tests.sharings import best_sharings, clearing_grid, clears_with, rough_market, smooth_market, torn_market

CALM = Market({"ann": Table.one_of({"x": 5, "y": 4}), "bob": Table.plain({"x": 3, "y": 1})})
BAD_GOODS = ["z", "", "X", "ann", "x y", "xy"]


class CostRange(Case):
    def test_the_example(self):
        self.assertEqual(cost_range(CALM, "x"), (2, 3))
        self.assertEqual(cost_range(good="y", market=CALM), (1, 2))

    def test_the_amounts_of_the_least_and_the_marginal_prices(self):
        chance = chance_of("range")
        for goods in range(1, 6):
            for buyers in range(1, 4):
                for make in [smooth_market, rough_market]:
                    market = make(chance, FIVE[:goods], buyers, 5)
                    least, most = least_prices(market), marginal_prices(market)
                    for good in market.goods:
                        told = cost_range(market, good)
                        self.assertIs(told.__class__, tuple)
                        self.assertEqual(told, (least[good], most[good]))

    def test_a_good_can_cost_just_what_lies_between(self):
        chance = chance_of("between")
        many = []
        for goods, most, top in [(1, 9, 30), (2, 4, 12), (3, 2, 5)]:
            for buyers in [1, 2, 2, 3, 3, 4]:
                market = smooth_market(chance, FIVE[:goods], buyers, most)
                # Clearing prices are at most the marginal prices, so a grid up to a little more has all of them.
                highest = max(marginal_prices(market).amounts().values())
                if highest < top:
                    found = clearing_grid(market, highest + 1, (2,))
                    for good in market.goods:
                        low, high = cost_range(market, good)
                        costs = sorted({Fraction(prices[good], 2) for prices in found})
                        self.assertEqual(costs, [Fraction(half, 2) for half in range(2 * low, 2 * high + 1)])
                        many.append(high - low)
        self.assertGreater(len(many), 20)
        self.assertGreater(len(set(many)), 3)

    def test_unknown_goods(self):
        for good in BAD_GOODS:
            self.check_raises(UnknownName, {"name": good}, cost_range, CALM, good)


class PricesWith(Case):
    def check_told(self, market, good, amount, unit):
        """Check what is told; return whether prices are told."""
        told = prices_with(market, good, amount, unit)
        if told is None:
            return False
        self.assertEqual([told.__class__, told.goods, told.unit, told[good]], [Prices, market.goods, unit, amount])
        sharing = market.best()[1]
        self.assertIs(check_clearing(market, told, sharing), True)
        self.assertIs(clears_with(market, told, sharing), True)
        return True

    def test_the_example(self):
        middle = prices_with(CALM, "x", 5, 2)
        self.assertEqual([middle["x"], middle.unit, check_clearing(CALM, middle, CALM.best()[1]),
                          prices_with(CALM, "x", 4)], [5, 2, True, None])

    def test_the_unit_may_be_left_out(self):
        for told in [prices_with(CALM, "x", 3), prices_with(market=CALM, good="x", amount=3),
                     prices_with(CALM, "x", unit=1, amount=3)]:
            self.assertEqual([told["x"], told.unit], [3, 1])
        self.assertIs(prices_with(CALM, "x", 1), None)

    def test_markets_of_substitutes_at_all_units(self):
        chance = chance_of("with")
        inner = 0
        for goods in range(1, 6):
            for buyers in range(1, 5):
                for most in [2, 7]:
                    market = smooth_market(chance, FIVE[:goods], buyers, most)
                    for unit in chance.sample(range(1, 13), 3):
                        good = chance.choice(market.goods)
                        low, high = [amount * unit for amount in cost_range(market, good)]
                        some = {0, low - 1, low, low + 1, (low + high) // 2, high - 1, high, high + 1, high + unit}
                        for amount in sorted(some):
                            if amount >= 0:
                                expected = low <= amount <= high
                                self.assertIs(self.check_told(market, good, amount, unit), expected)
                                inner += low < amount < high
        self.assertGreater(inner, 60)

    def test_greater_worths(self):
        chance = chance_of("greater")
        for goods in [2, 5]:
            market = Market({name: Table.one_of({good: chance.randint(20, 80) for good in FIVE[:goods]})
                             for name in ["ann", "bob", "zoe"]})
            for good in market.goods:
                low, high = cost_range(market, good)
                for unit in [1, 12]:
                    for amount in [low * unit - 1, low * unit, (low + high) * unit // 2, high * unit, high * unit + 1]:
                        if amount >= 0:
                            expected = low * unit <= amount <= high * unit
                            self.assertIs(self.check_told(market, good, amount, unit), expected)

    def test_other_markets(self):
        chance = chance_of("other")
        seen = []
        for goods in range(1, 4):
            for buyers in range(1, 4):
                for _ in range(4):
                    market = rough_market(chance, FIVE[:goods], buyers, 4)
                    for good in market.goods:
                        for unit in [1, 2]:
                            seen += [self.check_told(market, good, amount, unit) for amount in range(0, 12, 2)]
        self.assertEqual(set(seen), {True, False})

    def test_no_prices_where_none_clear_the_market(self):
        chance = chance_of("torn")
        for goods in [2, 3, 4]:
            market = torn_market(chance, FIVE[:goods], 6)
            for good in market.goods:
                for amount in range(12):
                    self.assertIs(prices_with(market, good, amount, 2) is None,
                                  not self.check_told(market, good, amount, 2))
        torn = Market({"ann": Table(["x", "y"], [3, 3, 7]), "bob": Table.one_of({"x": 10, "y": 10})})
        for amount in range(22):
            self.assertIs(prices_with(torn, "x", amount, 2), None)

    def test_the_bounds_of_a_market_that_is_cleared_by_no_lower_prices(self):
        market = Market({"ann": Table(["x", "y"], [0, 0, 6]), "bob": Table(["x", "y"], [0, 0, 5])})
        sharing = best_sharings(market)[0]
        for amount in range(8):
            told = prices_with(market, "x", amount)
            if told is not None:
                self.assertIs(clears_with(market, told, sharing), True)
                self.assertEqual(told["x"], amount)

    def test_the_errors_in_their_order(self):
        for good in BAD_GOODS:
            for amount, unit in [(1, 1), (-1, 0), (-1, 1), (1, 0)]:
                self.check_raises(UnknownName, {"name": good}, prices_with, CALM, good, amount, unit)
        for amount in [-1, -7, -10 ** 30]:
            for unit in [1, 0, -3]:
                self.check_raises(BadPrice, {"price": amount}, prices_with, CALM, "x", amount, unit)
        for unit in [0, -1, -10 ** 30]:
            for amount in [0, 2, 10 ** 30]:
                self.check_raises(BadUnit, {"value": unit}, prices_with, CALM, "x", amount, unit)
        for value in no_integers():
            self.check_raises(BadPrice, {"price": value}, prices_with, CALM, "x", value, 0)
            self.check_raises(BadUnit, {"value": value}, prices_with, CALM, "x", 2, value)

    def test_great_amounts(self):
        self.assertIs(prices_with(CALM, "x", 10 ** 40, 12), None)

    def test_the_same_again(self):
        self.assertEqual(prices_with(CALM, "y", 3, 2), prices_with(CALM, "y", 3, 2))
        self.assertEqual(prices_with(CALM, "y", 3, 2).amounts(), prices_with(CALM, "y", 3, 2).amounts())
