"""Points 6, 10, 11 and 37: what a buyer keeps when prices rise."""

from fractions import Fraction

from bundlekinds.errors import BadBundle, NotHigher, NotWanted, UnlikeGoods
from bundlekinds.prices import Prices
from bundlekinds.rises import kept
from bundlekinds.tables import Table
from tests.families import rough_tables, smooth_tables
from tests.samples import (FIVE, SMALL_NUMBERS, Case, any_values, chance_of, plain_bundles, rising_table, some_prices,
                           wanted_of)

GREAT = 10 ** 40


def cost(prices, good):
    return Fraction(prices.amounts()[good], prices.unit)


def kept_of(table, before, after, bundle):
    """Return the first wanted bundle that keeps what stayed at its price, worked out with fractions."""
    stayed = {good for good in bundle if cost(before, good) == cost(after, good)}
    return next((other for other in wanted_of(table, after) if stayed <= set(other)), None)


def rises_of(chance, before, most):
    """Return prices that are as high as these or higher: for no good, each alone, several and all of them."""
    goods = before.goods
    found = [before, before.in_unit(before.unit * 3)]
    for good in goods:
        by = chance.choice([1, 2, most, 2 * most])
        found.append(before.in_unit(before.unit * chance.randint(1, 3)).raised(good, by))
    for part in [goods, chance.sample(goods, (len(goods) + 1) // 2)]:
        after = before.in_unit(before.unit * chance.randint(1, 3))
        for good in part:
            after = after.raised(good, chance.randint(1, most + 1))
        found.append(after)
    return found


class Kept(Case):
    both = Table(["x", "y"], [3, 3, 7])
    low = Prices({"x": 3, "y": 4})

    def check_kept(self, table, before, after):
        """Check what is kept of each wanted bundle; return the list of what the calls returned."""
        told = []
        for bundle in wanted_of(table, before):
            found = kept(table, before, after, bundle)
            self.assertEqual(found, kept_of(table, before, after, bundle))
            told.append(found)
        return told

    def test_the_examples(self):
        either = Table.one_of({"x": 5, "y": 4})
        self.assertEqual(kept(either, Prices({"x": 3, "y": 3}), Prices({"x": 9, "y": 3}), ("x",)), ("y",))
        self.assertIs(kept(self.both, self.low, self.low.raised("x", 9), ("x", "y")), None)

    def test_many_tables_at_prices_with_units_of_their_own(self):
        chance = chance_of("kept")
        told = []
        for table in rough_tables(chance)[::4] + [rising_table(chance, FIVE[:many], 6) for many in [1, 2, 2, 2]]:
            most = table.numbers[-1] // len(table.goods) + 1
            for before in some_prices(chance, table.goods, most):
                for after in rises_of(chance, before, most):
                    told += self.check_kept(table, before, after)
        self.assertIn(None, told)
        self.assertIn((), told)
        self.assertTrue(any(told))

    def test_small_tables_where_many_bundles_are_wanted(self):
        told = []
        low = [Prices({"x": x, "y": 1, "z": 1}) for x in range(2)]
        for numbers in SMALL_NUMBERS[::9]:
            table = Table(["x", "y", "z"], numbers)
            for before in low:
                for after in [before, before.raised("y", 1), before.raised("x", 1).raised("z", 1),
                              before.in_unit(2).raised("z", 1)]:
                    told += self.check_kept(table, before, after)
        self.assertIn(None, told)

    def test_substitutes_always_keep_what_stayed(self):
        chance = chance_of("substitutes")
        for table in smooth_tables(chance, (0, 1, 5, 20000)):
            most = table.numbers[-1] // len(table.goods) + 1
            for before in some_prices(chance, table.goods, most)[:4]:
                for after in rises_of(chance, before, most):
                    self.assertNotIn(None, self.check_kept(table, before, after))

    def test_the_first_bundle_that_has_what_stayed(self):
        alike = Table(["x", "y", "z"], [2, 2, 2, 4, 4, 4, 6])
        before = Prices({"x": 2, "y": 2, "z": 2})
        dear = before.raised("y", 1)
        self.assertEqual([kept(alike, before, dear, bundle) for bundle in plain_bundles(("x", "y", "z"))],
                         [(), ("x",), (), ("z",), ("x",), ("x", "z"), ("z",), ("x", "z")])
        self.assertEqual([kept(alike, before, before, bundle) for bundle in plain_bundles(("x", "y", "z"))],
                         plain_bundles(("x", "y", "z")))

    def test_a_good_that_stayed_in_another_unit(self):
        either = Table.one_of({"x": 5, "y": 5})
        before = Prices({"x": 7, "y": 9}, unit=2)
        self.assertEqual(kept(either, before, Prices({"x": 21, "y": 27}, unit=6), ("x",)), ("x",))
        self.assertIs(kept(self.both, Prices({"x": 6, "y": 8}, unit=2), Prices({"x": 13, "y": 16}, unit=4), ("x", "y")),
                      None)
        # Both goods got dearer, so nothing must be kept.
        self.assertEqual(kept(self.both, self.low, Prices({"x": 31, "y": 41}, unit=10), ("x", "y")), ())

    def test_great_amounts_and_units(self):
        before = Prices({"x": 3 * GREAT, "y": 4 * GREAT}, unit=GREAT)
        self.assertEqual(kept(self.both, before, before, ("x", "y")), ("x", "y"))
        self.assertIs(kept(self.both, before, before.raised("x", 1), ("x", "y")), None)
        self.check_raises(NotHigher, {"name": "x"}, kept, self.both, before.raised("x", 1), before, ("x", "y"))

    def test_the_arguments_may_be_passed_by_name(self):
        self.assertEqual(kept(bundle=("x", "y"), after=self.low, before=self.low, table=self.both), ("x", "y"))

    def test_the_same_again_and_nothing_changes(self):
        before = Prices({"x": 3, "y": 4})
        after = before.raised("x", 9)
        for _ in range(2):
            self.assertIs(kept(self.both, before, after, ("x", "y")), None)
            self.assertEqual(kept(self.both, before, after, ("x",)), ())
        self.assertEqual([before.amounts(), after.amounts()], [{"x": 3, "y": 4}, {"x": 12, "y": 4}])


class Refusing(Case):
    both = Table(["x", "y"], [3, 3, 7])
    low = Prices({"x": 3, "y": 4})
    high = Prices({"x": 4, "y": 4})
    others = [("x",), ("y",), ("x", "z"), ("w", "x", "y"), ("w",), ("x", "y", "z")]

    def test_prices_of_other_goods(self):
        for names in self.others:
            prices = Prices({name: 5 for name in names})
            self.check_raises(UnlikeGoods, {"names": names}, kept, self.both, prices, self.low, ("x", "y"))
            self.check_raises(UnlikeGoods, {"names": names}, kept, self.both, self.low, prices, ("x", "y"))

    def test_a_good_that_costs_less(self):
        for after, name in [({"x": 2, "y": 4}, "x"), ({"x": 3, "y": 3}, "y"), ({"x": 2, "y": 3}, "x"),
                            ({"x": 9, "y": 3}, "y"), ({"x": 0, "y": 9}, "x")]:
            self.check_raises(NotHigher, {"name": name}, kept, self.both, self.low, Prices(after), ("x", "y"))
        for after, name in [({"x": 17, "y": 24}, "x"), ({"x": 18, "y": 23}, "y")]:
            self.check_raises(NotHigher, {"name": name}, kept, self.both, self.low, Prices(after, unit=6), ("x", "y"))

    def test_values_that_are_no_bundles(self):
        for value in any_values()[:-1] + [("y", "x"), ("x", "x"), ("z",), ("x", "y", "z")]:
            self.check_raises(BadBundle, {"value": value}, kept, self.both, self.low, self.high, value)
        value = ["x"]
        self.check_keeps(BadBundle, "value", value, kept, self.both, self.low, self.high, value)

    def test_bundles_that_are_not_wanted(self):
        self.check_raises(NotWanted, {"value": ("y",)}, kept, self.both, self.low, self.high, ("y",))
        # What is wanted at the later prices alone is of no use.
        cheap = Prices({"x": 1, "y": 1})
        for bundle in [(), ("x",), ("y",)]:
            self.check_raises(NotWanted, {"value": bundle}, kept, self.both, cheap, self.high, bundle)

    def test_of_two_errors_the_first_one_counts(self):
        other = Prices({"z": 1})
        more = Prices({"x": 1, "y": 1, "z": 1})
        wrong = [(other, more, ["x"], UnlikeGoods, {"names": ("z",)}),
                 (other, self.low, ("y",), UnlikeGoods, {"names": ("z",)}),
                 (more, other, ("x",), UnlikeGoods, {"names": ("x", "y", "z")}),
                 (self.low, other, ("z",), UnlikeGoods, {"names": ("z",)}),
                 (self.low, other, ("y",), UnlikeGoods, {"names": ("z",)}),
                 (self.high, self.low, ("z",), NotHigher, {"name": "x"}),
                 (self.high, self.low, None, NotHigher, {"name": "x"}),
                 (self.high, self.low, ("y",), NotHigher, {"name": "x"})]
        for before, after, bundle, kind, told in wrong:
            self.check_raises(kind, told, kept, self.both, before, after, bundle)
