"""Points 6, 8 to 11 and 70 to 72: levels of prices, climbs, and the least prices that clear a market."""

from bundlekinds.clearing import check_clearing, decide, marginal_prices
from bundlekinds.errors import UnlikeGoods
from bundlekinds.levels import climb, least_prices, level
from bundlekinds.markets import Market
from bundlekinds.prices import Prices
from bundlekinds.tables import Table
from tests.samples import FIVE, MILLION, Case, chance_of, gains_of, plain_bundles, rising_table, some_prices, worths_of
from tests.sharings import (NAMES, best_sharings, clearing_grid, clears_with, rough_market, smooth_market, torn_market,
                            worths_within)

CALM = {"ann": Table.one_of({"x": 5, "y": 4}), "bob": Table.plain({"x": 3, "y": 1})}


def level_of(market, prices):
    """Return the level of prices from all gains."""
    gains = [max(gains_of(market[buyer], prices).values()) for buyer in market.buyers]
    return sum(gains) + sum(prices.amounts().values())


def climb_of(market):
    """Return the list of the amounts of a climb, worked out step by step from the worths of all bundles."""
    tables = [worths_of(market[buyer]) for buyer in market.buyers]
    bundles = plain_bundles(market.goods)

    def height(amounts):
        best = [max(worths[bundle] - sum(amounts[good] for good in bundle) for bundle in bundles) for worths in tables]
        return sum(best) + sum(amounts.values())

    found = [{good: 0 for good in market.goods}]
    while True:
        near = [{good: found[-1][good] + (good in bundle) for good in market.goods} for bundle in bundles[1:]]
        heights = [height(amounts) for amounts in near]
        if min(heights) >= height(found[-1]):
            return found
        found.append(near[heights.index(min(heights))])


class Level(Case):
    def test_the_example(self):
        calm = Market(CALM)
        least = least_prices(calm)
        self.assertEqual([least.amounts(), level(calm, least), calm.best()[0], len(climb(calm))],
                         [{"x": 2, "y": 1}, 7, 7, 3])
        self.assertEqual(level(prices=least, market=calm), 7)

    def test_against_all_bundles(self):
        chance = chance_of("level")
        for goods in range(1, 6):
            for buyers in range(1, 7):
                for most in [1, 9, 30000]:
                    market = rough_market(chance, FIVE[:goods], buyers, most)
                    for prices in some_prices(chance, FIVE[:goods], most * 2):
                        self.assertEqual(level(market, prices), level_of(market, prices))

    def test_never_below_a_best_sharing_and_equal_exactly_where_prices_clear(self):
        chance = chance_of("clear")
        seen = []
        for goods in range(1, 5):
            for buyers in range(1, 4):
                for make in [rough_market, smooth_market]:
                    market = make(chance, FIVE[:goods], buyers, 5)
                    best = worths_within(market)[market.goods]
                    sharing = best_sharings(market)[0]
                    paper = decide(market).paper
                    more = [paper[1], marginal_prices(market)] if paper[0] == "clears" else [marginal_prices(market)]
                    for prices in some_prices(chance, market.goods, 6) + more + [one.raised("a", 1) for one in more]:
                        told = level(market, prices)
                        self.assertGreaterEqual(told, prices.unit * best)
                        seen.append(clears_with(market, prices, sharing))
                        self.assertIs(told == prices.unit * best, seen[-1])
        self.assertEqual(set(seen), {True, False})

    def test_great_amounts_and_units(self):
        calm = Market(CALM)
        great = 10 ** 40
        self.assertEqual(level(calm, Prices({"x": 3 * great, "y": great}, unit=great)), 7 * great)
        self.assertEqual(level(calm, Prices({"x": great, "y": great})), 2 * great)

    def test_prices_of_other_goods(self):
        calm = Market(CALM)
        for names in [("x",), ("y",), ("x", "z"), ("w", "x", "y"), ("w",)]:
            prices = Prices({name: 1 for name in names})
            self.check_raises(UnlikeGoods, {"names": names}, level, calm, prices)


class Climb(Case):
    def check_climb(self, market):
        """Check a climb step by step; return it."""
        found = climb(market)
        self.assertIs(found.__class__, list)
        for prices in found:
            self.assertEqual([prices.__class__, prices.goods, prices.unit], [Prices, market.goods, 1])
        self.assertEqual([prices.amounts() for prices in found], climb_of(market))
        self.assertEqual(least_prices(market), found[-1])
        levels = [level(market, prices) for prices in found]
        self.assertEqual(levels, sorted(set(levels), reverse=True))
        return found

    def test_markets_of_all_kinds(self):
        chance = chance_of("climb")
        lengths = []
        for goods in range(1, 6):
            for buyers in range(1, 5):
                for most in [1, 6]:
                    lengths.append(len(self.check_climb(rough_market(chance, FIVE[:goods], buyers, most))))
                    lengths.append(len(self.check_climb(smooth_market(chance, FIVE[:goods], buyers, most))))
            lengths.append(len(self.check_climb(torn_market(chance, FIVE[:goods], 8))))
        self.assertGreater(max(lengths), 6)

    def test_greater_worths(self):
        chance = chance_of("greater")
        for goods in [1, 2, 3]:
            market = Market({name: Table.one_of({good: chance.randint(60, 130) for good in FIVE[:goods]})
                             for name in NAMES[:4]})
            self.assertLessEqual(market.best()[0], 400)
            self.assertGreater(len(self.check_climb(market)), 50)
        self.assertEqual(len(self.check_climb(Market({name: Table(["x"], [400]) for name in NAMES[:2]}))), 401)

    def test_great_markets_end_in_good_time(self):
        for table in [Table.one_of(dict.fromkeys(FIVE, 80)), Table(FIVE, [0] * 30 + [400]),
                      Table.plain({**dict.fromkeys(FIVE, 0), "c": 400}), Table(FIVE, [80] * 31)]:
            market = Market({name: table for name in NAMES})
            found = climb(market)
            self.assertLessEqual(market.best()[0], 400)
            self.assertEqual(level(market, found[-1]), min(level(market, prices) for prices in found))

    def test_nothing_to_climb(self):
        for market in [Market({"ann": Table(["x", "y"], [3, 3, 7])}), Market({"ann": Table(["x"], [MILLION])}),
                       Market({name: Table(FIVE, [0] * 31) for name in NAMES})]:
            self.assertEqual(climb(market), [Prices(dict.fromkeys(market.goods, 0))])

    def test_the_first_of_several_bundles(self):
        market = Market({name: Table.one_of({"x": 2, "y": 2, "z": 2}) for name in NAMES[:4]})
        self.assertEqual([prices.amounts() for prices in self.check_climb(market)],
                         [{"x": 0, "y": 0, "z": 0}, {"x": 1, "y": 1, "z": 1}, {"x": 2, "y": 2, "z": 2}])
        # The level gets lower by 1 for each good alone, and for no two together.
        torn = Market({"ann": Table(["x", "y"], [0, 0, 1]), "bob": Table(["x", "y"], [0, 0, 1])})
        self.assertEqual([prices.amounts() for prices in self.check_climb(torn)], [{"x": 0, "y": 0}, {"x": 1, "y": 0}])

    def test_the_list_may_be_changed(self):
        calm = Market(CALM)
        found = climb(market=calm)
        found.clear()
        self.assertEqual([prices.amounts() for prices in climb(calm)],
                         [{"x": 0, "y": 0}, {"x": 1, "y": 0}, {"x": 2, "y": 1}])


class LeastPrices(Case):
    def test_they_clear_markets_of_substitutes(self):
        chance = chance_of("least")
        for goods in range(1, 6):
            for buyers in range(1, 7):
                for most in [1, 4, 12]:
                    market = smooth_market(chance, FIVE[:goods], buyers, most)
                    if market.best()[0] <= 400:
                        least = least_prices(market)
                        self.assertEqual(least.unit, 1)
                        self.assertIs(check_clearing(market, least, market.best()[1]), True)
                        self.assertIs(clears_with(market, least, market.best()[1]), True)
                        self.assertIs(marginal_prices(market).covers(least), True)
                        self.assertIs(decide(market).paper[1].covers(least), True)

    def test_no_clearing_prices_of_substitutes_are_lower(self):
        chance = chance_of("lowest")
        many = 0
        for goods, most in [(1, 6), (2, 4), (3, 2)]:
            for buyers in range(1, 5):
                for _ in range(2):
                    market = smooth_market(chance, FIVE[:goods], buyers, most)
                    least = least_prices(market=market)
                    for prices in clearing_grid(market, most + 1):
                        many += 1
                        self.assertIs(prices.covers(least), True)
        self.assertGreater(many, 100)

    def test_the_same_for_equal_markets(self):
        chance = chance_of("same")
        for _ in range(6):
            tables = {name: rising_table(chance, FIVE[:3], 4) for name in NAMES[:3]}
            turned = {name: Table.read(str(tables[name])) for name in reversed(NAMES[:3])}
            self.assertEqual(climb(Market(tables)), climb(Market(turned)))
