"""Points 6, 10, 11 and 32 to 34: gaining steps, walks, and bundles that are stuck."""

from bundlekinds.errors import BadBundle, UnlikeGoods
from bundlekinds.prices import Prices, is_wanted
from bundlekinds.tables import Table
from bundlekinds.walks import is_stuck, steps, walk
from tests.samples import (FIVE, MILLION, SMALL_NUMBERS, Case, any_values, chance_of, gaining, gains_of, plain_bundles,
                           rising_table, some_prices, stuck_at, substitutes_tables)

GREAT = 10 ** 40


def walk_of(table, prices, bundle):
    """Return the walk, worked out step by step from the gains alone."""
    gains = gains_of(table, prices)
    path = [bundle]
    while gaining(table, prices, path[-1]):
        found = gaining(table, prices, path[-1])
        best = max(gains[other] for other in found)
        path.append([other for other in found if gains[other] == best][0])
    return path


def list_of_steps(table, prices, bundle):
    return list(steps(table, prices, bundle))


class Steps(Case):
    both = Table(["x", "y"], [3, 3, 7])
    dear = Prices({"x": 3, "y": 3})

    def test_the_examples(self):
        self.assertEqual([list(steps(self.both, self.dear, ("x",))), is_stuck(self.both, self.dear, ()),
                          walk(self.both, Prices({"x": 2, "y": 3}), ())],
                         [[("x", "y")], True, [(), ("x",), ("x", "y")]])

    def test_all_bundles_of_some_tables_at_some_prices(self):
        chance = chance_of("steps")
        for many in range(1, 6):
            for most in [2, 30, 200000]:
                tables = [rising_table(chance, FIVE[:many], most), Table.plain(dict.fromkeys(FIVE[:many], most))]
                for table in tables:
                    for prices in some_prices(chance, FIVE[:many], most + most // 2)[1:]:
                        for bundle in plain_bundles(FIVE[:many]):
                            found = gaining(table, prices, bundle)
                            self.assertEqual(list(steps(table, prices, bundle)), found)
                            self.assertEqual(walk(table, prices, bundle), walk_of(table, prices, bundle))
                            self.assertIs(is_stuck(table, prices, bundle), stuck_at(table, prices, bundle))

    def test_small_tables_where_many_gains_are_equal(self):
        goods = ("x", "y", "z")
        some = [Prices({"x": x, "y": y, "z": 1}, unit=unit) for x in range(3) for y in range(2) for unit in [1, 2]]
        for numbers in SMALL_NUMBERS[::6]:
            table = Table(goods, numbers)
            for prices in some:
                for bundle in plain_bundles(goods):
                    self.assertEqual(list(steps(table, prices, bundle)), gaining(table, prices, bundle))
                    self.assertEqual(walk(table, prices, bundle), walk_of(table, prices, bundle))
                    self.assertIs(is_stuck(table, prices, bundle), stuck_at(table, prices, bundle))

    def test_a_step_adds_drops_and_changes_at_most_one_good(self):
        table = Table(["x", "y", "z"], [5, 5, 5, 9, 9, 9, 12])
        free = Prices({"x": 0, "y": 0, "z": 0})
        self.assertEqual(list(steps(table, free, ())), [("x",), ("y",), ("z",)])
        self.assertEqual(list(steps(table, free, ("x",))), [("x", "y"), ("x", "z")])
        self.assertEqual(list(steps(table, free, ("x", "y"))), [("x", "y", "z")])
        self.assertEqual(list(steps(table, free, ("x", "y", "z"))), [])
        dear = Prices({"x": 9, "y": 0, "z": 0})
        self.assertEqual(list(steps(table, dear, ("x",))), [(), ("y",), ("z",), ("x", "y"), ("x", "z")])
        self.assertEqual(list(steps(table, dear, ("x", "y"))), [("y",), ("y", "z"), ("x", "y", "z")])
        self.assertEqual(list(steps(table, dear, ("x", "y", "z"))), [("y", "z")])

    def test_an_equal_gain_is_no_gaining_step(self):
        table = Table(["x", "y"], [3, 3, 6])
        self.assertEqual(list(steps(table, Prices({"x": 3, "y": 3}), ("x",))), [])
        self.assertEqual(list(steps(table, Prices({"x": 6, "y": 7}, unit=2), ("y",))), [(), ("x",)])

    def test_great_amounts_and_units(self):
        prices = Prices({"x": 3 * GREAT + 1, "y": 3 * GREAT}, unit=GREAT)
        self.assertEqual(list(steps(self.both, prices, ("x",))), [(), ("y",), ("x", "y")])
        self.assertIs(is_stuck(self.both, prices, ()), True)
        self.assertEqual(walk(self.both, prices, ("x",)), [("x",), ("x", "y")])

    def test_a_generator_that_stays_alone(self):
        one = steps(self.both, self.dear, ("x",))
        self.assertIs(iter(one), one)
        other = steps(self.both, self.dear, ("x",))
        self.assertEqual([next(one), next(other), next(one, None), next(other, None)],
                         [("x", "y"), ("x", "y"), None, None])

    def test_the_arguments_may_be_passed_by_name(self):
        self.assertEqual(list(steps(bundle=("x",), prices=self.dear, table=self.both)), [("x", "y")])
        self.assertEqual(walk(bundle=("x",), prices=self.dear, table=self.both), [("x",), ("x", "y")])
        self.assertIs(is_stuck(bundle=("x",), prices=self.dear, table=self.both), False)


class Walks(Case):
    def test_the_first_of_several_best_steps(self):
        alike = Table(["x", "y", "z"], [2, 2, 2, 4, 4, 4, 6])
        prices = Prices({"x": 1, "y": 1, "z": 1})
        self.assertEqual(walk(alike, prices, ()), [(), ("x",), ("x", "y"), ("x", "y", "z")])
        self.assertEqual(walk(alike, prices, ("z",)), [("z",), ("x", "z"), ("x", "y", "z")])

    def test_the_best_step_is_not_always_the_first(self):
        table = Table.plain({"x": 2, "y": 7, "z": 5})
        self.assertEqual(walk(table, Prices({"x": 3, "y": 1, "z": 1}), ("x",)), [("x",), ("y",), ("y", "z")])

    def test_a_walk_from_where_no_step_leads(self):
        both = Table(["x", "y"], [3, 3, 7])
        self.assertEqual(walk(both, Prices({"x": 3, "y": 3}), ()), [()])
        self.assertEqual(walk(both, Prices({"x": 0, "y": 0}), ("x", "y")), [("x", "y")])

    def test_each_call_returns_a_new_list(self):
        both = Table(["x", "y"], [3, 3, 7])
        prices = Prices({"x": 2, "y": 3})
        first = walk(both, prices, ())
        self.assertIs(first.__class__, list)
        first.clear()
        self.assertEqual(walk(both, prices, ()), [(), ("x",), ("x", "y")])

    def test_no_bundle_of_substitutes_is_stuck_and_each_walk_ends_with_a_wanted_one(self):
        chance = chance_of("walks")
        for many in range(1, 6):
            for most in [1, 5, 20000]:
                for table in substitutes_tables(chance, FIVE[:many], most):
                    for prices in some_prices(chance, FIVE[:many], most * 2)[1:4]:
                        for bundle in plain_bundles(FIVE[:many])[::3]:
                            self.assertIs(is_stuck(table, prices, bundle), False)
                            path = walk(table, prices, bundle)
                            self.assertEqual(path[0], bundle)
                            self.assertIs(is_wanted(table, prices, path[-1]), True)


class Refusing(Case):
    both = Table(["x", "y"], [3, 3, 7])
    calls = [list_of_steps, walk, is_stuck]

    def test_prices_of_other_goods_come_first(self):
        for names in [("x",), ("y",), ("x", "z"), ("w", "x", "y"), ("w",)]:
            prices = Prices({name: MILLION for name in names})
            for call in self.calls:
                for value in [(), ("x",), ("z",), None, ["x"]]:
                    self.check_raises(UnlikeGoods, {"names": names}, call, self.both, prices, value)

    def test_values_that_are_no_bundles(self):
        prices = Prices({"x": 1, "y": 1})
        for call in self.calls:
            for value in any_values()[:-1] + [("y", "x"), ("x", "x"), ("z",), ("x", "y", "z")]:
                self.check_raises(BadBundle, {"value": value}, call, self.both, prices, value)
            value = ["x"]
            self.check_keeps(BadBundle, "value", value, call, self.both, prices, value)
