"""Points 6, 7, 10, 11 and 66 to 69: exchanges of goods, cases without one, and rows of wanted bundles."""

import itertools

from bundlekinds.errors import BadBundle, IsSubstitutes, NotWanted, UnknownName, UnlikeGoods
from bundlekinds.exchanges import check_exchange, exchange, exchange_case, linked
from bundlekinds.prices import Prices, wanted
from bundlekinds.tables import Table
from tests.families import (apart_tables, great_tables, pair_tables, rough_tables, shaken_tables, small_tables,
                            smooth_tables, triple_tables)
from tests.samples import (FIVE, SMALL_NUMBERS, Case, any_values, chance_of, failures_of, plain_bundles, rising_table,
                           some_prices, substitutes_tables, wanted_of, worths_of)

BOTH = Table(["x", "y"], [3, 3, 7])
NO_BUNDLES = any_values()[:-1] + [("y", "x"), ("x", "x"), ("z",), ("x", "y", "z")]


def turned(bundle, without, more):
    """Return the bundle without some goods and with some more."""
    return tuple(sorted((set(bundle) - set(without)) | set(more)))


def exchange_of(worths, one, other, good):
    """Return the first exchange that is worth enough, from the worths alone."""
    found = [(turned(one, good_of(good), ()), turned(other, (), good_of(good)))]
    for name in sorted(set(other) - set(one)):
        found.append((turned(one, good_of(good), good_of(name)), turned(other, good_of(name), good_of(good))))
    return next((pair for pair in found if worths[pair[0]] + worths[pair[1]] >= worths[one] + worths[other]), None)


def good_of(name):
    return (name,)


def all_cases(table):
    """Return all two bundles and goods of the first one that the other one lacks."""
    bundles = plain_bundles(table.goods)
    return [(one, other, good) for one in bundles for other in bundles for good in one if good not in other]


class Exchange(Case):
    def test_the_examples(self):
        either = Table.one_of({"x": 5, "y": 4})
        self.assertEqual([exchange(either, ("x",), ("y",), "x"), exchange(BOTH, ("x", "y"), (), "x")],
                         [(("y",), ("x",)), None])
        self.assertEqual(exchange(good="x", other=("y",), one=("x",), table=either), (("y",), ("x",)))

    def test_all_bundles_and_goods_of_some_tables(self):
        chance = chance_of("exchange")
        tables = [Table(["x", "y", "z"], numbers) for numbers in SMALL_NUMBERS[::8]]
        tables += [rising_table(chance, FIVE[:many], most) for many in range(1, 6) for most in [2, 200000]]
        told = []
        for table in tables:
            worths = worths_of(table)
            for one, other, good in all_cases(table):
                found = exchange(table, one, other, good)
                self.assertEqual(found, exchange_of(worths, one, other, good))
                self.assertIs(check_exchange(table, (one, other, good)), found is None)
                told.append(found is None)
        self.assertEqual(set(told), {True, False})

    def test_substitutes_always_have_an_exchange(self):
        chance = chance_of("substitutes")
        for many in range(1, 6):
            for most in [1, 9, 20000]:
                for table in substitutes_tables(chance, FIVE[:many], most)[::2]:
                    worths = worths_of(table)
                    for one, other, good in all_cases(table)[chance.randint(0, 2)::3]:
                        found = exchange(table, one, other, good)
                        self.assertIs(found.__class__, tuple)
                        self.assertEqual(found, exchange_of(worths, one, other, good))

    def test_the_exchange_of_one_good_comes_first(self):
        free = Table(["x", "y", "z"], [1] * 7)
        self.assertEqual(exchange(free, ("x",), ("y", "z"), "x"), (("y",), ("x", "z")))
        self.assertEqual(exchange(free, ("x", "y"), ("y", "z"), "x"), (("y",), ("x", "y", "z")))
        self.assertEqual(exchange(Table(["x", "y", "z"], [1, 5, 5, 6, 6, 10, 11]), ("x", "y"), ("z",), "x"),
                         (("y",), ("x", "z")))

    def test_values_that_are_no_bundles(self):
        for value in NO_BUNDLES:
            for good in ["x", "z", ""]:
                self.check_raises(BadBundle, {"value": value}, exchange, BOTH, value, ("z",), good)
                self.check_raises(BadBundle, {"value": value}, exchange, BOTH, value, (), good)
                self.check_raises(BadBundle, {"value": value}, exchange, BOTH, ("x",), value, good)
        value = ["x"]
        self.check_keeps(BadBundle, "value", value, exchange, BOTH, value, (), "x")
        self.check_keeps(BadBundle, "value", value, exchange, BOTH, ("x",), value, "x")

    def test_goods_that_cannot_be_exchanged(self):
        for one, other, good in [((), (), "x"), (("x",), (), "y"), (("x",), ("x",), "x"), (("x", "y"), ("y",), "y"),
                                 ((), ("x",), "x"), (("x",), ("y",), "y"), (("x",), (), "z"), (("x",), (), ""),
                                 (("x", "y"), (), "x y"), (("x",), (), "X")]:
            self.check_raises(UnknownName, {"name": good}, exchange, BOTH, one, other, good)


class ExchangeCases(Case):
    def check_case(self, table):
        """Check the case of a table if there must be one, and the error if there is none; return the failures."""
        found = failures_of(table)
        if not found:
            self.check_raises(IsSubstitutes, {}, exchange_case, table)
            return found
        case = exchange_case(table)
        self.assertEqual([case.__class__, len(case)], [tuple, 3])
        self.assertIs(check_exchange(table, case), True)
        self.assertIs(exchange(table, *case), None)
        one, other, good = case
        self.assertIn(one, plain_bundles(table.goods))
        self.assertIn(other, plain_bundles(table.goods))
        self.assertTrue(good in one and good not in other)
        self.assertIs(exchange_of(worths_of(table), *case), None)
        self.assertEqual(exchange_case(Table(list(table.goods), list(table.numbers))), case)
        return found

    def check_kinds(self, tables, expected):
        """Check all cases; the tables have failures of these kinds."""
        kinds = {tuple(sorted({failure[0] for failure in self.check_case(table)})) for table in tables}
        self.assertLessEqual(expected, kinds)

    def test_tables_of_all_kinds(self):
        self.check_kinds(small_tables(), {(), ("pair",), ("triple",), ("pair", "triple")})
        self.check_kinds(pair_tables(chance_of("pairs")), {("pair",)})
        self.check_kinds(triple_tables(chance_of("triples")), {("triple",)})
        self.check_kinds(rough_tables(chance_of("both"))[::2], {("pair", "triple")})

    def test_worths_far_apart_and_great_ones(self):
        self.check_kinds(apart_tables(chance_of("apart"))[::3] + great_tables(), {("pair",), ("triple",)})

    def test_failures_over_bundles_that_are_not_empty(self):
        for _, table in shaken_tables(chance_of("shaken"))[::3]:
            self.check_case(table)

    def test_no_case_for_substitutes(self):
        for table in smooth_tables(chance_of("none")):
            self.check_raises(IsSubstitutes, {}, exchange_case, table)
        self.check_raises(IsSubstitutes, {}, exchange_case, table=Table.one_of({"x": 1, "y": 2}))

    def test_every_case_exactly_for_tables_without_substitutes(self):
        for numbers in SMALL_NUMBERS[::5]:
            table = Table(["x", "y", "z"], numbers)
            found = [case for case in all_cases(table) if check_exchange(table, case)]
            self.assertEqual(bool(found), bool(failures_of(table)))


class CheckExchange(Case):
    def test_cases_with_one_item_changed(self):
        seen = []
        for many in range(2, 5):
            table = Table(FIVE[:many], [1] * (2 ** many - 2) + [5])
            worths = worths_of(table)
            one, other, good = exchange_case(table)
            for bundle in plain_bundles(table.goods):
                for case in [(bundle, other, good), (one, bundle, good)]:
                    expected = case in all_cases(table) and exchange_of(worths, *case) is None
                    self.assertIs(check_exchange(table, case), expected)
                    seen.append(expected)
            for name in [*table.goods, "zoe", "", "A"]:
                expected = (one, other, name) in all_cases(table) and exchange_of(worths, one, other, name) is None
                self.assertIs(check_exchange(table, (one, other, name)), expected)
            for wrong in [[one, other, good], (one, other), (one, other, good, good), (list(one), other, good),
                          (one, list(other), good), (one[::-1], other, good), (one, other, (good,)), (other, one, good),
                          ((one, other, good),), {"one": one, "other": other, "good": good}]:
                self.assertIs(check_exchange(table, wrong), False)
            self.assertIs(check_exchange(case=(one, other, good), table=table), True)
        self.assertEqual(set(seen), {True, False})

    def test_values_of_any_kind(self):
        for value in any_values() + [(1, 2, 3), ("x", "y", "x"), (None, None, None)]:
            self.assertIs(check_exchange(BOTH, value), False)
            self.assertIs(check_exchange(BOTH, (value, value, value)), False)
            if value != ():
                self.assertIs(check_exchange(BOTH, (value, (), "x")), False)
                self.assertIs(check_exchange(BOTH, (("x", "y"), value, "x")), False)
            if value != "x":
                self.assertIs(check_exchange(BOTH, (("x", "y"), (), value)), False)
        self.assertIs(check_exchange(BOTH, (("x", "y"), (), "x")), True)


def is_step(one, other):
    return one != other and len(set(one) - set(other)) <= 1 and len(set(other) - set(one)) <= 1


def shortest(bundles, one, other):
    """Return the length of a shortest row from one bundle to another, or None if there is none, by layers."""
    layer = {one}
    reached = {one}
    length = 1
    while layer and other not in layer:
        layer = {bundle for bundle in bundles if bundle not in reached and any(is_step(last, bundle) for last in layer)}
        reached |= layer
        length += 1
    return length if layer else None


class Linked(Case):
    def check_linked(self, table, prices):
        """Check the rows between all wanted bundles; return the list of their lengths, None where there is none."""
        bundles = wanted_of(table, prices)
        told = []
        # Of the pairs of many bundles a part is enough.
        for one, other in list(itertools.product(bundles, repeat=2))[::1 + len(bundles) ** 2 // 60]:
            row = linked(table, prices, one, other)
            length = shortest(bundles, one, other)
            told.append(length)
            if length is None:
                self.assertIs(row, None)
                continue
            self.assertIs(row.__class__, list)
            self.assertEqual([row[0], row[-1], len(row)], [one, other, length])
            self.assertTrue(all(bundle in bundles for bundle in row))
            self.assertTrue(all(is_step(last, bundle) for last, bundle in zip(row, row[1:])))
            self.assertEqual(linked(table, prices, one, other), row)
        return told

    def test_the_examples(self):
        either = Table.one_of({"x": 5, "y": 4})
        low = Prices({"x": 3, "y": 4})
        self.assertEqual([linked(either, Prices({"x": 1, "y": 0}), ("x",), ("y",)), linked(BOTH, low, (), ("x", "y"))],
                         [[("x",), ("y",)], [(), ("x",), ("x", "y")]])
        self.assertEqual(linked(other=("x", "y"), one=(), prices=low, table=BOTH), [(), ("x",), ("x", "y")])

    def test_a_bundle_and_itself(self):
        self.assertEqual(linked(BOTH, Prices({"x": 3, "y": 4}), ("x",), ("x",)), [("x",)])

    def test_there_may_be_no_row(self):
        far = Table(["x", "y"], [0, 0, 4])
        self.assertIs(linked(far, Prices({"x": 2, "y": 2}), (), ("x", "y")), None)
        self.assertIs(linked(far, Prices({"x": 2, "y": 2}), ("x", "y"), ()), None)

    def test_tables_of_all_kinds(self):
        chance = chance_of("linked")
        told = []
        for numbers in SMALL_NUMBERS[::4]:
            table = Table(["x", "y", "z"], numbers)
            for prices in [Prices({"x": 0, "y": 0, "z": 0}), Prices({"x": 1, "y": 1, "z": 1}),
                           Prices({"x": 1, "y": 1, "z": 2}, unit=2), Prices({"x": 0, "y": 1, "z": 1})]:
                told += self.check_linked(table, prices)
        for many in range(1, 6):
            table = Table(FIVE[:many], [0] * (2 ** many - 2) + [2 * many])
            told += self.check_linked(table, Prices(dict.fromkeys(FIVE[:many], 2)))
            for prices in some_prices(chance, FIVE[:many], 2):
                told += self.check_linked(rising_table(chance, FIVE[:many], 1), prices)
        self.assertLessEqual({None, 1, 2, 3, 4}, set(told))

    def test_substitutes_always_have_a_row_and_wanted_exchanges(self):
        chance = chance_of("substitutes")
        lengths = []
        for many in range(1, 6):
            for most in [0, 1, 3, 20000]:
                for table in substitutes_tables(chance, FIVE[:many], most):
                    amounts = {good: table((good,)) for good in table.goods}
                    for prices in [*some_prices(chance, FIVE[:many], most)[:3], Prices(amounts)]:
                        told = self.check_linked(table, prices)
                        self.assertNotIn(None, told)
                        lengths += told
                        self.check_exchanges(table, prices)
        self.assertGreaterEqual(max(lengths), 5)

    def check_exchanges(self, table, prices):
        """Check that the exchanges of two wanted bundles of substitutes are two wanted bundles."""
        bundles = wanted(table, prices)
        for one, other in itertools.product(bundles[:12], bundles[-12:]):
            for good in set(one) - set(other):
                first, second = exchange(table, one, other, good)
                self.assertIn(first, bundles)
                self.assertIn(second, bundles)

    def test_what_is_returned_may_change(self):
        low = Prices({"x": 3, "y": 4})
        linked(BOTH, low, (), ("x", "y")).clear()
        self.assertEqual(linked(BOTH, low, (), ("x", "y")), [(), ("x",), ("x", "y")])

    def test_the_errors_in_their_order(self):
        low = Prices({"x": 3, "y": 4})
        for names in [("x",), ("x", "z"), ("w", "x", "y")]:
            prices = Prices({name: 1 for name in names})
            for one, other in [((), ("x",)), (None, ("x",)), (("y",), ["x"])]:
                self.check_raises(UnlikeGoods, {"names": names}, linked, BOTH, prices, one, other)
        for value in NO_BUNDLES:
            for other in [("x",), ("y",), ("z",), None]:
                self.check_raises(BadBundle, {"value": value}, linked, BOTH, low, value, other)
            for one in [("x",), ("y",)]:
                self.check_raises(BadBundle, {"value": value}, linked, BOTH, low, one, value)
        for other in [("y",), ("x",)]:
            self.check_raises(NotWanted, {"value": ("y",)}, linked, BOTH, low, ("y",), other)
        self.check_raises(NotWanted, {"value": ("y",)}, linked, BOTH, low, ("x",), ("y",))
        self.check_raises(NotWanted, {"value": ("y",)}, linked, BOTH, low.raised("x", 1), ("y",), ("x",))
        self.check_raises(NotWanted, {"value": ("x",)}, linked, BOTH, low.raised("x", 1), ("x",), ("y",))
