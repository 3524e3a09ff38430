"""Points 6, 8 to 11, 48, 50, 53 and 54: prices that clear a market, marginal prices, higher and lower prices."""

import itertools
import math
from fractions import Fraction

from bundlekinds.clearing import check_clearing, decide, higher, lower, marginal_prices
from bundlekinds.errors import UnlikeGoods
from bundlekinds.markets import Market
from bundlekinds.prices import Prices
from bundlekinds.tables import Table
from tests.samples import FIVE, MILLION, Case, any_values, chance_of, plain_bundles, some_prices
from tests.sharings import (all_sharings, best_sharings, clearing_grid, clears_with, rough_market, smooth_market,
                            torn_market, worths_within)

CALM = {"ann": Table.one_of({"x": 5, "y": 4}), "bob": Table.plain({"x": 3, "y": 1})}


def cost(prices, good):
    return Fraction(prices.amounts()[good], prices.unit)


class CheckClearing(Case):
    def check_both(self, market, prices, sharing):
        """Check that prices and a sharing are accepted exactly if they clear the market."""
        expected = clears_with(market, prices, sharing)
        self.assertIs(check_clearing(market, prices, sharing), expected)
        return expected

    def test_the_examples(self):
        calm = Market(CALM)
        prices = marginal_prices(calm)
        self.assertEqual([prices["x"], prices["y"], check_clearing(calm, prices, calm.best()[1])], [3, 2, True])

    def test_all_sharings_of_small_markets_at_some_prices(self):
        chance = chance_of("clearing")
        seen = []
        for goods, buyers in [(1, 1), (1, 3), (2, 1), (2, 2), (2, 3), (3, 1), (3, 2)]:
            for make in [rough_market, smooth_market]:
                market = make(chance, FIVE[:goods], buyers, 3)
                prices = some_prices(chance, market.goods, 6) + [decide(market).paper[1], marginal_prices(market)]
                for one in prices:
                    if isinstance(one, Prices):
                        seen += [self.check_both(market, one, sharing) for sharing in all_sharings(market)]
        self.assertEqual(set(seen), {True, False})

    def test_with_one_item_changed(self):
        chance = chance_of("changed")
        seen = []
        for goods in range(1, 5):
            for buyers in range(1, 4):
                market = smooth_market(chance, FIVE[:goods], buyers, 9)
                _, prices, sharing = decide(market).paper
                self.assertIs(self.check_both(market, prices, sharing), True)
                for changed in self.changed_prices(prices):
                    seen.append(self.check_both(market, changed, sharing))
                for changed in self.changed_sharings(market, sharing):
                    seen.append(self.check_both(market, prices, changed))
                self.assertIs(check_clearing(market, prices.in_unit(prices.unit * 3), sharing), True)
        self.assertEqual(set(seen), {True, False})

    def changed_prices(self, prices):
        """Return the prices with an amount or the unit changed, or with a good less, more or another one."""
        amounts = prices.amounts()
        found = [Prices(amounts, unit=prices.unit + by) for by in [1, 2]]
        found.append(Prices({**amounts, "zoe": 0}, unit=prices.unit))
        found.append(Prices({good + "9": amounts[good] for good in amounts}, unit=prices.unit))
        for good in amounts:
            found += [prices.raised(good, 1), prices.raised(good, 50),
                      Prices({**amounts, good: max(0, amounts[good] - 1)}, unit=prices.unit),
                      Prices({**amounts, good: 0}, unit=prices.unit)]
            if len(amounts) > 1:
                found.append(Prices({name: amounts[name] for name in amounts if name != good}, unit=prices.unit))
        return found

    def changed_sharings(self, market, sharing):
        """Return the sharing with a bundle changed, two exchanged, or a buyer less or more."""
        found = [{**sharing, "zoe": ()}]
        for buyer in sharing:
            found += [{**sharing, buyer: bundle} for bundle in plain_bundles(market.goods)]
            found.append({name: sharing[name] for name in sharing if name != buyer})
            found += [{**sharing, buyer: sharing[other], other: sharing[buyer]} for other in sharing]
        return found

    def test_values_that_are_no_sharings(self):
        calm = Market(CALM)
        prices = Prices({"x": 3, "y": 2})
        for value in any_values() + [{"ann": ("y",)}, {"ann": ("y",), "bob": ["x"]}, {"ann": ("y",), "bob": None},
                                     {"ann": ("y",), 7: ("x",)}, {"ann": ("y",), "bob": ("x",), None: ()},
                                     {"ann": ("y",), "bob": ("z",)}, [("ann", ("y",)), ("bob", ("x",))]]:
            self.assertIs(check_clearing(calm, prices, value), False)
        self.assertIs(check_clearing(calm, prices, {"bob": ("x",), "ann": ("y",)}), True)
        self.assertIs(check_clearing(sharing={"bob": ("x",), "ann": ("y",)}, prices=prices, market=calm), True)

    def test_a_good_that_nobody_gets_costs_nothing(self):
        market = Market({"ann": Table(["x", "y"], [3, 0, 3])})
        sharing = {"ann": ("x",)}
        self.assertIs(check_clearing(market, Prices({"x": 2, "y": 0}), sharing), True)
        self.assertIs(check_clearing(market, Prices({"x": 2, "y": 1}), sharing), False)
        self.assertIs(check_clearing(market, Prices({"x": 2, "y": 1}, unit=10 ** 30), sharing), False)
        self.assertIs(check_clearing(market, Prices({"x": 2, "y": 0}), {"ann": ("x", "y")}), True)
        self.assertIs(check_clearing(market, Prices({"x": 2, "y": 1}), {"ann": ("x", "y")}), False)

    def test_every_best_sharing_and_no_other(self):
        chance = chance_of("every")
        many = []
        for goods in range(1, 5):
            for buyers in range(1, 4):
                for most in [1, 2, 9]:
                    for market in [smooth_market(chance, FIVE[:goods], buyers, most),
                                   rough_market(chance, FIVE[:goods], buyers, most)]:
                        verdict = decide(market)
                        if verdict.kind == "clears":
                            best = best_sharings(market)
                            many.append(len(best))
                            for sharing in all_sharings(market):
                                self.assertIs(check_clearing(market, verdict.paper[1], sharing), sharing in best)
        self.assertGreater(max(many), 4)


class MarginalPrices(Case):
    def check_prices(self, market):
        """Check the marginal prices against all sharings."""
        worths = worths_within(market)
        everything = worths[market.goods]
        prices = marginal_prices(market)
        self.assertEqual([prices.unit, prices.goods], [1, market.goods])
        for good in market.goods:
            others = tuple(name for name in market.goods if name != good)
            self.assertEqual(prices[good], everything - worths[others])
        return prices

    def test_against_all_sharings(self):
        chance = chance_of("marginal")
        for goods in range(1, 6):
            for buyers in range(1, 7):
                if (buyers + 1) ** goods < 1500:
                    for most in [1, 9, 30000]:
                        self.check_prices(rough_market(chance, FIVE[:goods], buyers, most))
            self.check_prices(torn_market(chance, FIVE[:goods], 10))

    def test_they_clear_markets_of_substitutes(self):
        chance = chance_of("substitutes")
        for goods in range(1, 6):
            for buyers in range(1, 7):
                for most in [1, 9, 20000]:
                    market = smooth_market(chance, FIVE[:goods], buyers, most)
                    prices = marginal_prices(market)
                    sharing = market.best()[1]
                    self.assertIs(check_clearing(market, prices, sharing), True)
                    self.assertIs(clears_with(market, prices, sharing), True)

    def test_no_clearing_prices_are_higher(self):
        chance = chance_of("highest")
        many = 0
        for goods, most in [(1, 9), (2, 6), (3, 3)]:
            for buyers in range(1, 4):
                for market in [smooth_market(chance, FIVE[:goods], buyers, most),
                               rough_market(chance, FIVE[:goods], buyers, most)]:
                    top = marginal_prices(market)
                    if market.best()[0] <= 40:
                        for prices in clearing_grid(market, 7):
                            many += 1
                            self.assertIs(top.covers(prices), True)
        self.assertGreater(many, 100)

    def test_the_prices_of_a_verdict_are_not_higher(self):
        chance = chance_of("verdict")
        for goods in range(1, 6):
            for buyers in range(1, 5):
                for market in [smooth_market(chance, FIVE[:goods], buyers, 20000),
                               rough_market(chance, FIVE[:goods], buyers, 9)]:
                    verdict = decide(market)
                    if verdict.kind == "clears":
                        self.assertIs(marginal_prices(market).covers(verdict.paper[1]), True)

    def test_the_arguments_may_be_passed_by_name(self):
        self.assertEqual(marginal_prices(market=Market(CALM)).amounts(), {"x": 3, "y": 2})


class HigherAndLower(Case):
    def check_prices(self, one, other):
        """Check the higher and the lower prices good by good."""
        for call, choose in [(higher, max), (lower, min)]:
            told = call(one, other)
            self.assertEqual([told.goods, told.unit], [one.goods, math.lcm(one.unit, other.unit)])
            for good in one.goods:
                self.assertEqual(cost(told, good), choose(cost(one, good), cost(other, good)))

    def test_some_prices(self):
        chance = chance_of("higher")
        for many in range(1, 6):
            for most in [1, 9, 10 ** 30]:
                for _ in range(20):
                    one, other = [Prices({good: chance.randint(0, most) for good in FIVE[:many]},
                                         unit=chance.choice([1, 2, 3, 4, 6, 10, 12, 10 ** 20])) for _ in range(2)]
                    self.check_prices(one, other)
                    self.check_prices(one, one)

    def test_units_of_their_own(self):
        one = Prices({"x": 7, "y": 3}, unit=4)
        other = Prices({"x": 10, "y": 5}, unit=6)
        self.assertEqual([higher(one, other).amounts(), higher(one, other).unit], [{"x": 21, "y": 10}, 12])
        self.assertEqual([lower(one, other).amounts(), lower(one, other).unit], [{"x": 20, "y": 9}, 12])
        self.assertEqual(higher(other=other, one=one), higher(other, one))
        self.assertEqual(lower(other=other, one=one), lower(other, one))
        self.assertEqual([one.amounts(), one.unit, other.unit], [{"x": 7, "y": 3}, 4, 6])

    def test_prices_of_other_goods(self):
        one = Prices({"x": 7, "y": 3}, unit=4)
        for names in [("x",), ("y",), ("x", "z"), ("w", "x", "y"), ("w",)]:
            other = Prices({name: 1 for name in names})
            for call in [higher, lower]:
                self.check_raises(UnlikeGoods, {"names": names}, call, one, other)
                self.check_raises(UnlikeGoods, {"names": ("x", "y")}, call, other, one)

    def test_they_clear_where_both_clear_a_market_of_substitutes(self):
        chance = chance_of("lattice")
        many = 0
        for goods, most in [(1, 6), (2, 4), (3, 2)]:
            for buyers in range(1, 5):
                for _ in range(3):
                    market = smooth_market(chance, FIVE[:goods], buyers, most)
                    sharing = market.best()[1]
                    found = clearing_grid(market, most + 1)
                    found += [marginal_prices(market), decide(market).paper[1]]
                    for one, other in itertools.combinations(chance.sample(found, min(8, len(found))), 2):
                        for told in [higher(one, other), lower(one, other)]:
                            many += told not in (one, other)
                            self.assertIs(clears_with(market, told, sharing), True)
                            self.assertIs(check_clearing(market, told, sharing), True)
        self.assertGreater(many, 20)

    def test_the_greatest_worths(self):
        market = Market({"ann": Table.one_of({"x": MILLION, "y": MILLION - 1}),
                         "bob": Table.plain({"x": 1, "y": 2})})
        top = marginal_prices(market)
        self.assertIs(check_clearing(market, top, market.best()[1]), True)
