"""Points 6, 10, 11, 27 and 28: gains, and the bundles that are wanted."""

from bundlekinds.errors import BadBundle, UnlikeGoods
from bundlekinds.prices import Prices, best_gain, gain, is_wanted, wanted
from bundlekinds.tables import Table
from tests.samples import (FIVE, MILLION, Case, any_values, chance_of, gains_of, plain_bundles, rising_table,
                           some_prices, substitutes_tables)

GREAT = 10 ** 40


class Gains(Case):
    both = Table(["x", "y"], [3, 3, 7])

    def test_the_examples(self):
        prices = Prices({"x": 7, "y": 5}, unit=2)
        self.assertEqual([gain(self.both, prices, ("x",)), best_gain(self.both, prices), wanted(self.both, prices)],
                         [-1, 2, [("x", "y")]])

    def test_every_bundle_of_some_tables_at_some_prices(self):
        chance = chance_of("gains")
        for many in range(1, 6):
            for most in [2, 50, 200000]:
                tables = [rising_table(chance, FIVE[:many], most), *substitutes_tables(chance, FIVE[:many], most // 6)]
                for table in tables:
                    for prices in some_prices(chance, FIVE[:many], most + 1):
                        self.check_gains(table, prices)

    def check_gains(self, table, prices):
        gains = gains_of(table, prices)
        best = max(gains.values())
        self.assertEqual(best_gain(table, prices), best)
        self.assertEqual(wanted(table, prices), [bundle for bundle in gains if gains[bundle] == best])
        for bundle in gains:
            self.assertEqual(gain(table, prices, bundle), gains[bundle])
            self.assertIs(is_wanted(table, prices, bundle), gains[bundle] == best)

    def test_great_amounts_and_units(self):
        prices = Prices({"x": GREAT, "y": 3 * GREAT + 1}, unit=GREAT)
        self.assertEqual(gain(self.both, prices, ("x", "y")), 3 * GREAT - 1)
        self.assertEqual(best_gain(self.both, prices), 3 * GREAT - 1)
        self.assertEqual(wanted(self.both, prices), [("x", "y")])
        self.assertIs(is_wanted(self.both, prices, ("x",)), False)
        self.assertEqual(gain(self.both, prices.raised("y", 10 * GREAT), ("y",)), -10 * GREAT - 1)

    def test_several_bundles_are_wanted_in_their_order(self):
        self.assertEqual(wanted(self.both, Prices({"x": 3, "y": 4})), [(), ("x",), ("x", "y")])
        free = Prices({good: 0 for good in FIVE})
        self.assertEqual(wanted(Table(FIVE, [0] * 31), free), plain_bundles(FIVE))
        self.assertEqual(wanted(Table(FIVE, [1] * 31), free), plain_bundles(FIVE)[1:])
        self.assertEqual(wanted(Table(FIVE, [0] * 31), free.raised("a", 1)), plain_bundles(FIVE[1:]))

    def test_nothing_is_wanted_if_all_is_too_dear(self):
        dear = Prices({"x": MILLION, "y": MILLION})
        self.assertEqual([best_gain(self.both, dear), wanted(self.both, dear)], [0, [()]])

    def test_the_returned_list_may_change(self):
        prices = Prices({"x": 3, "y": 4})
        first = wanted(self.both, prices)
        self.assertIs(first.__class__, list)
        first.clear()
        self.assertEqual(wanted(self.both, prices), [(), ("x",), ("x", "y")])

    def test_the_arguments_may_be_passed_by_name(self):
        prices = Prices({"x": 3, "y": 4})
        self.assertEqual(gain(bundle=("x", "y"), prices=prices, table=self.both), 0)
        self.assertEqual(best_gain(prices=prices, table=self.both), 0)
        self.assertEqual(wanted(prices=prices, table=self.both), [(), ("x",), ("x", "y")])
        self.assertIs(is_wanted(bundle=("y",), prices=prices, table=self.both), False)

    def test_prices_of_other_goods(self):
        for names in [("x",), ("y",), ("x", "z"), ("w", "x", "y"), ("w",)]:
            prices = Prices({name: 1 for name in names})
            told = {"names": names}
            self.check_raises(UnlikeGoods, told, best_gain, self.both, prices)
            self.check_raises(UnlikeGoods, told, wanted, self.both, prices)
            # The prices count before the bundle.
            for value in [(), ("x",), ("z",), None, ["x"]]:
                self.check_raises(UnlikeGoods, told, gain, self.both, prices, value)
                self.check_raises(UnlikeGoods, told, is_wanted, self.both, prices, value)

    def test_values_that_are_no_bundles(self):
        prices = Prices({"x": 1, "y": 1})
        for value in any_values()[:-1] + [("y", "x"), ("x", "x"), ("z",), ("x", "y", "z")]:
            self.check_raises(BadBundle, {"value": value}, gain, self.both, prices, value)
            self.check_raises(BadBundle, {"value": value}, is_wanted, self.both, prices, value)
        value = ["x"]
        self.check_keeps(BadBundle, "value", value, gain, self.both, prices, value)
        self.check_keeps(BadBundle, "value", value, is_wanted, self.both, prices, value)
