"""Points 6, 10, 11 and 24 to 26: what prices are built from, tell, equal and cover."""

import itertools

from bundlekinds.errors import BadBundle, BadCount, BadName, BadPrice, BadUnit, UnknownName, UnlikeGoods
from bundlekinds.prices import Prices
from bundlekinds.tables import Table
from tests.samples import FIVE, MILLION, Case, any_values, chance_of, no_integers, plain_bundles

GREAT = 10 ** 40


class Building(Case):
    def test_the_examples(self):
        prices = Prices({"x": 7, "y": 5}, unit=2)
        self.assertTrue(prices == prices.in_unit(4))
        self.check_raises(BadPrice, {"price": -1}, Prices, {"x": 7, "y": -1}, unit=0)

    def test_one_to_five_goods_in_any_order_of_the_keys(self):
        for many in range(1, 6):
            for names in itertools.permutations(FIVE[:many]):
                amounts = {name: 3 * FIVE.index(name) for name in names}
                prices = Prices(amounts, unit=7)
                self.assertEqual(prices.goods, FIVE[:many])
                self.assertIs(prices.goods.__class__, tuple)
                self.assertEqual(prices.unit, 7)
                self.assertEqual([prices[good] for good in FIVE[:many]], [0, 3, 6, 9, 12][:many])
                self.assertEqual(prices.amounts(), amounts)

    def test_great_amounts_and_units(self):
        prices = Prices({"x": GREAT, "y": 0, "z": 1}, unit=GREAT + 1)
        self.assertEqual([prices["x"], prices["y"], prices["z"], prices.unit], [GREAT, 0, 1, GREAT + 1])
        self.assertEqual(prices.total(("x", "z")), GREAT + 1)

    def test_the_unit_is_one_if_it_is_left_out(self):
        self.assertEqual(Prices({"x": 3}).unit, 1)
        self.assertIs(Prices({"x": 3}).unit.__class__, int)

    def test_the_unit_is_passed_by_name_only(self):
        self.assertEqual(Prices(unit=4, amounts={"x": 3}).unit, 4)
        with self.assertRaises(TypeError):
            Prices({"x": 3}, 4)

    def test_the_dict_stays_and_may_change_later(self):
        amounts = {"y": 1, "x": 2}
        prices = Prices(amounts)
        self.assertEqual(list(amounts.items()), [("y", 1), ("x", 2)])
        amounts["x"] = 9
        amounts["z"] = 9
        del amounts["y"]
        self.assertEqual([prices.goods, prices["x"], prices["y"]], [("x", "y"), 2, 1])
        self.assertEqual(prices.amounts(), {"x": 2, "y": 1})

    def test_the_dict_that_amounts_returns_may_change(self):
        prices = Prices({"x": 2, "y": 1})
        told = prices.amounts()
        self.assertIs(told.__class__, dict)
        told["x"] = 9
        del told["y"]
        self.assertEqual(prices.amounts(), {"x": 2, "y": 1})
        self.assertEqual([prices["x"], prices.total(("x", "y"))], [2, 3])

    def test_prices_cannot_be_given_other_goods_or_another_unit(self):
        for name in ["goods", "unit"]:
            with self.assertRaises(AttributeError):
                setattr(Prices({"x": 1}), name, 1)


class Refusing(Case):
    def test_no_key_and_six_keys(self):
        self.check_raises(BadCount, {"count": 0}, Prices, {})
        self.check_raises(BadCount, {"count": 6}, Prices, dict.fromkeys("abcdef", 1))
        self.check_raises(BadCount, {"count": 6}, Prices, dict.fromkeys("abcdEf", -1), unit=0)
        self.check_raises(BadCount, {"count": 0}, Prices, {}, unit=None)

    def test_keys_that_are_no_names(self):
        for name in ["", "X", "1", "teapots", "x y", "x\n"]:
            self.check_raises(BadName, {"name": name}, Prices, {"x": 1, name: 1})
            self.check_raises(BadName, {"name": name}, Prices, {"x": -1, name: None}, unit=0)
        self.check_raises(BadName, {"name": "A"}, Prices, {"z": 1, "C": 1, "A": 1, "B": 1})

    def test_amounts_that_are_no_prices(self):
        for wrong in [-1, -GREAT, *no_integers()]:
            self.check_raises(BadPrice, {"price": wrong}, Prices, {"x": wrong})
            self.check_raises(BadPrice, {"price": wrong}, Prices, {"z": -2, "y": wrong, "x": 1})
            self.check_raises(BadPrice, {"price": wrong}, Prices, {"y": None, "x": wrong}, unit=-1)
        wrong = [1]
        self.check_keeps(BadPrice, "price", wrong, Prices, {"x": wrong})

    def test_units_that_are_none(self):
        for wrong in [0, -1, -GREAT, *no_integers()]:
            self.check_raises(BadUnit, {"value": wrong}, Prices, {"x": 1, "y": 0}, unit=wrong)


class Amounts(Case):
    def test_a_good_that_is_not_there(self):
        prices = Prices({"x": 1, "y": 2})
        for good in ["z", "", "X", "xy", "x ", "y\n", "teapots"]:
            self.check_raises(UnknownName, {"name": good}, prices.__getitem__, good)

    def test_the_total_of_every_bundle(self):
        chance = chance_of("totals")
        for many in range(1, 6):
            amounts = {good: chance.randint(0, 10 ** 20) for good in FIVE[:many]}
            for bundle in plain_bundles(FIVE[:many]):
                for unit in [1, 6]:
                    self.assertEqual(Prices(amounts, unit=unit).total(bundle), sum(amounts[good] for good in bundle))
        self.assertEqual(Prices({"x": 1}).total(bundle=("x",)), 1)

    def test_the_total_of_what_is_no_bundle(self):
        prices = Prices({"x": 1, "y": 2})
        for value in any_values()[:-1] + [("y", "x"), ("x", "x"), ("z",), ("x", "y", "z")]:
            self.check_raises(BadBundle, {"value": value}, prices.total, value)
        value = ["x"]
        self.check_keeps(BadBundle, "value", value, prices.total, value)

    def test_prices_are_not_iterated_over(self):
        self.assertRaises(TypeError, list, Prices({"x": 1}))


class Raised(Case):
    prices = Prices({"x": 7, "y": 5}, unit=2)

    def test_raised(self):
        for good in ["x", "y"]:
            for by in [0, 1, 9, GREAT]:
                higher = self.prices.raised(good, by)
                self.assertIs(higher.__class__, Prices)
                self.assertEqual(higher.unit, 2)
                expected = {"x": 7, "y": 5}
                expected[good] += by
                self.assertEqual(higher.amounts(), expected)
        self.assertEqual(self.prices.raised(by=1, good="y").amounts(), {"x": 7, "y": 6})
        self.assertEqual(self.prices.amounts(), {"x": 7, "y": 5})

    def test_raised_by_nothing(self):
        self.assertTrue(self.prices.raised("x", 0) == self.prices)

    def test_errors(self):
        for good in ["z", "", "X"]:
            for by in [1, -1, True, None]:
                self.check_raises(UnknownName, {"name": good}, self.prices.raised, good, by)
        for by in [-1, -GREAT, *no_integers()]:
            self.check_raises(BadPrice, {"price": by}, self.prices.raised, "x", by)
        self.assertEqual(self.prices.amounts(), {"x": 7, "y": 5})


class InUnit(Case):
    prices = Prices({"x": 7, "y": 0, "z": 5}, unit=6)

    def test_multiples(self):
        for factor in [1, 2, 3, 50, GREAT]:
            told = self.prices.in_unit(6 * factor)
            self.assertIs(told.__class__, Prices)
            self.assertEqual(told.unit, 6 * factor)
            self.assertEqual(told.amounts(), {"x": 7 * factor, "y": 0, "z": 5 * factor})
            self.assertTrue(told == self.prices)
        self.assertEqual(self.prices.in_unit(unit=12)["z"], 10)
        self.assertEqual(Prices({"x": 3}).in_unit(1).amounts(), {"x": 3})
        self.assertEqual(self.prices.unit, 6)

    def test_others(self):
        for unit in [0, -6, -12, 1, 2, 3, 5, 7, 9, 13, 6 * GREAT + 1, *no_integers()]:
            self.check_raises(BadUnit, {"value": unit}, self.prices.in_unit, unit)
        for unit in [0, -1, *no_integers()]:
            self.check_raises(BadUnit, {"value": unit}, Prices({"x": 1}).in_unit, unit)


class Equality(Case):
    def check_equal(self, one, other, expected):
        self.assertIs(one == other, expected)
        self.assertIs(other == one, expected)
        self.assertIs(one != other, not expected)
        self.assertIs(other != one, not expected)

    def test_equal_prices_in_different_units(self):
        self.check_equal(Prices({"x": 1, "y": 2}), Prices({"y": 2, "x": 1}), True)
        self.check_equal(Prices({"x": 2, "y": 3}, unit=4), Prices({"x": 4, "y": 6}, unit=8), True)
        self.check_equal(Prices({"x": 4, "y": 6}, unit=6), Prices({"x": 6, "y": 9}, unit=9), True)
        self.check_equal(Prices({"x": 0}, unit=5), Prices({"x": 0}, unit=7), True)
        self.check_equal(Prices({"x": 3 * GREAT}, unit=3), Prices({"x": GREAT}), True)

    def test_an_amount_that_differs_by_one(self):
        for unit in [1, 2, 9]:
            for many in range(1, 6):
                amounts = {good: 10 for good in FIVE[:many]}
                prices = Prices(amounts, unit=unit)
                for good in FIVE[:many]:
                    self.check_equal(prices, prices.raised(good, 1), False)
                    self.check_equal(prices.in_unit(unit * 3), prices.raised(good, 1), False)
                    self.check_equal(prices.in_unit(unit * GREAT).raised(good, 1), prices, False)

    def test_the_unit_counts(self):
        self.check_equal(Prices({"x": 4, "y": 6}), Prices({"x": 4, "y": 6}, unit=2), False)
        self.check_equal(Prices({"x": 0, "y": 6}), Prices({"x": 0, "y": 6}, unit=2), False)

    def test_other_goods(self):
        self.check_equal(Prices({"x": 1}), Prices({"y": 1}), False)
        self.check_equal(Prices({"x": 0}), Prices({"x": 0, "y": 0}), False)

    def test_all_small_prices(self):
        some = [(Prices({"x": x, "y": y}, unit=unit), x / unit, y / unit)
                for x in range(4) for y in range(4) for unit in range(1, 5)]
        for one, x, y in some:
            for other, other_x, other_y in some:
                # So small fractions are apart by much more than the error of these numbers.
                same = abs(x - other_x) < 0.001 and abs(y - other_y) < 0.001
                self.assertIs(one == other, same)

    def test_prices_are_not_equal_to_a_value_of_another_kind(self):
        prices = Prices({"x": 1})
        for value in any_values() + [{"x": 1}, ("x",), (("x", 1),), Table(["x"], [1]), Prices]:
            self.check_equal(prices, value, False)


class Covers(Case):
    def test_all_small_prices(self):
        some = [(Prices({"x": x, "y": y}, unit=unit), x / unit, y / unit)
                for x in range(4) for y in range(4) for unit in range(1, 5)]
        for one, x, y in some:
            for other, other_x, other_y in some:
                expected = x > other_x - 0.001 and y > other_y - 0.001
                self.assertIs(one.covers(other), expected)

    def test_both_ways(self):
        prices = Prices({good: MILLION for good in FIVE}, unit=3)
        for good in FIVE:
            higher = prices.raised(good, 1)
            for one, other, expected in [(prices, prices, True), (higher, prices, True), (prices, higher, False)]:
                self.assertIs(one.covers(other), expected)
                self.assertIs(one.in_unit(6).covers(other), expected)
                self.assertIs(one.covers(other=other.in_unit(GREAT * 3)), expected)
        higher = prices.raised("a", 1)
        other = prices.raised("e", 1)
        self.assertEqual([higher.covers(other), other.covers(higher)], [False, False])

    def test_other_goods(self):
        prices = Prices({"x": 1, "y": 1})
        for names in [("x",), ("y",), ("x", "z"), ("w", "x", "y"), ("w",)]:
            other = Prices({name: 0 for name in names}, unit=2)
            self.check_raises(UnlikeGoods, {"names": names}, prices.covers, other)
            self.check_raises(UnlikeGoods, {"names": ("x", "y")}, other.covers, prices)
