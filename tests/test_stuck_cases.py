"""Points 7, 9, 10, 11, 35 and 36: prices at which a bundle is stuck, for every table whose goods are no substitutes."""

from bundlekinds.errors import IsSubstitutes
from bundlekinds.kinds import is_substitutes
from bundlekinds.prices import Prices
from bundlekinds.tables import Table
from bundlekinds.walks import Stuck, check_stuck, stuck_case
from tests.samples import (FIVE, MILLION, SMALL_NUMBERS, Case, any_values, capped_table, chance_of, curved_table,
                           failures_of, plain_bundles, rising_table, stuck_at, substitutes_tables, table_by,
                           worths_of)


def covering_table(chance, goods, most):
    """Return a table of what the goods cover together: its pairs hold, its triples often fail."""
    places = [chance.randint(0, most) for _ in range(7)]
    covers = {good: [at for at in range(7) if chance.random() < 0.5] for good in goods}
    return table_by(goods, lambda bundle: sum(worth for at, worth in enumerate(places)
                                              if any(at in covers[good] for good in bundle)))


def shaken_table(chance, table, size):
    """Return a table that differs from the given one in the worths of bundles of at least so many goods.

    Then the first failure, if the given table has none, stands over a bundle of at least so many goods less two.
    """
    worths = worths_of(table)
    for bundle in plain_bundles(table.goods)[1:]:
        if len(bundle) >= size:
            least = max(worths[tuple(good for good in bundle if good != other)] for other in bundle)
            worths[bundle] = max(least, worths[bundle] + chance.choice([-2, -1, 0, 0, 0, 1]))
    return table_by(table.goods, worths.get)


class StuckCases(Case):
    def check_case(self, table):
        """Check the case of a table if there must be one, and the error if there is none; return the failures."""
        found = failures_of(table)
        if not found:
            self.check_raises(IsSubstitutes, {}, stuck_case, table)
            return found
        text = str(table)
        case = stuck_case(table)
        self.assertIs(case.__class__, Stuck)
        self.assertIs(check_stuck(table, case), True)
        self.assertEqual(case.prices.goods, table.goods)
        self.assertIn(case.bundle, plain_bundles(table.goods))
        self.assertIs(stuck_at(table, case.prices, case.bundle), True)
        again = stuck_case(Table(list(table.goods), list(table.numbers)))
        self.assertEqual([again.prices, again.bundle], [case.prices, case.bundle])
        self.assertEqual([again.prices.amounts(), again.prices.unit], [case.prices.amounts(), case.prices.unit])
        self.assertEqual(str(table), text)
        return found

    def check_kinds(self, tables, wanted):
        """Check all cases; at least one table has failures of just the wanted kinds."""
        kinds = [tuple(sorted({failure[0] for failure in self.check_case(table)})) for table in tables]
        self.assertIn(wanted, kinds)
        return kinds

    def test_the_example(self):
        both = Table(["x", "y"], [3, 3, 7])
        self.assertIs(check_stuck(both, stuck_case(both)), True)

    def test_every_small_table_of_two_and_three_goods(self):
        for x in range(4):
            for y in range(4):
                for more in range(max(x, y), 9):
                    self.check_case(Table(["x", "y"], [x, y, more]))
        kinds = self.check_kinds([Table(["x", "y", "z"], numbers) for numbers in SMALL_NUMBERS], ())
        self.assertEqual(set(kinds), {(), ("pair",), ("triple",), ("pair", "triple")})

    def test_failures_of_pairs_alone(self):
        chance = chance_of("pairs")
        for many in range(2, 6):
            for most in [1, 9, 100000]:
                for extra in [[0, 0, 0, 0, 0, 1], [0, 1, 3, 6, 10, 15], [0, 5, 10, 15, 20, 26]]:
                    extras = extra[:many] + [extra[many] + most]
                    table = curved_table(FIVE[:many], [chance.randint(0, most) for _ in range(many)], extras)
                    self.check_kinds([table], ("pair",))

    def test_failures_of_triples_alone(self):
        chance = chance_of("triples")
        for many in range(3, 6):
            for most in [2, 9, 1000, 100000]:
                tables = []
                for _ in range(12):
                    amounts = [chance.randint(1, most) for _ in range(many)]
                    tables.append(capped_table(FIVE[:many], amounts, chance.randint(1, sum(amounts))))
                    tables.append(covering_table(chance, FIVE[:many], most))
                kinds = self.check_kinds(tables, ("triple",))
                self.assertLessEqual(set(kinds), {(), ("triple",)})

    def test_failures_of_both(self):
        chance = chance_of("both")
        for many in range(3, 6):
            for most in [1, 2, 9, 1000, 200000]:
                self.check_kinds([rising_table(chance, FIVE[:many], most) for _ in range(12)], ("pair", "triple"))

    def test_worths_far_apart_from_good_to_good(self):
        chance = chance_of("apart")
        amounts = [1, 30, 900, 30000, 900000]
        for many in range(3, 6):
            for _ in range(20):
                some = chance.sample(amounts, many)
                worths = sum(some)
                cap = min(MILLION, worths - chance.choice(some) // 2 - 1)
                tables = [capped_table(FIVE[:many], some, cap), capped_table(FIVE[:many], some, max(some))]
                bonus = {good: chance.choice([0, 1, 60000]) for good in FIVE[:many]}
                tables.append(capped_table(FIVE[:many], [amount // 2 for amount in some], cap // 2).plus(bonus))
                for table in tables:
                    self.check_case(table)

    def test_the_greatest_worths(self):
        self.check_kinds([Table(["x", "y"], [0, 0, MILLION]), Table(["x", "y"], [1, MILLION - 2, MILLION])], ("pair",))
        self.check_kinds([Table(["x", "y", "z"], [500000, 500000, 500001, MILLION, MILLION, MILLION, MILLION])],
                         ("triple",))
        self.check_kinds([Table(FIVE, [0] * 30 + [MILLION]), Table(FIVE, [0] * 25 + [MILLION] * 6)], ("pair",))

    def test_failures_over_bundles_that_are_not_empty(self):
        chance = chance_of("shaken")
        places = set()
        for many in range(3, 6):
            for size in range(3, many + 1):
                for _ in range(25):
                    for table in substitutes_tables(chance, FIVE[:many], 9):
                        found = self.check_case(shaken_table(chance, table, size))
                        if found:
                            self.assertGreaterEqual(len(found[0][1]), size - 2)
                            places.add((found[0][0], len(found[0][1])))
        self.assertEqual(places, {("pair", 1), ("pair", 2), ("pair", 3), ("triple", 1), ("triple", 2)})

    def test_no_case_for_substitutes(self):
        chance = chance_of("none")
        for many in range(1, 6):
            for most in [0, 1, 7, 20000]:
                for table in substitutes_tables(chance, FIVE[:many], most):
                    self.check_raises(IsSubstitutes, {}, stuck_case, table)
                    self.check_raises(IsSubstitutes, {}, stuck_case, table=table)


class CheckStuck(Case):
    def check_both(self, table, case):
        """Check that a case is accepted exactly if it is one."""
        expected = (case.prices.goods == table.goods and case.bundle in plain_bundles(table.goods)
                    and stuck_at(table, case.prices, case.bundle))
        self.assertIs(check_stuck(table, case), expected)
        return expected

    def test_the_properties(self):
        prices = Prices({"x": 3, "y": 3}, unit=2)
        for case in [Stuck(prices, ("x",)), Stuck(bundle=("x",), prices=prices)]:
            self.assertTrue(case.prices == prices)
            self.assertEqual([case.prices.unit, case.bundle], [2, ("x",)])
            for name in ["prices", "bundle"]:
                with self.assertRaises(AttributeError):
                    setattr(case, name, ())

    def test_a_case_is_not_equal_to_a_value_of_another_kind(self):
        prices = Prices({"x": 1})
        for value in any_values() + [prices, (prices, ()), Table(["x"], [1])]:
            self.assertFalse(Stuck(prices, ()) == value)
            self.assertTrue(Stuck(prices, ()) != value)

    def test_the_arguments_may_be_passed_by_name(self):
        both = Table(["x", "y"], [3, 3, 7])
        self.assertIs(check_stuck(stuck=Stuck(Prices({"x": 3, "y": 3}), ()), table=both), True)

    def test_every_case_of_small_amounts(self):
        tables = [Table(["x", "y"], [3, 3, 7]), Table(["x", "y"], [3, 2, 5]), Table(["x", "y"], [0, 1, 3])]
        seen = []
        for table in tables:
            for x in range(6):
                for y in range(6):
                    for unit in [1, 2]:
                        for bundle in plain_bundles(("x", "y")):
                            seen.append(self.check_both(table, Stuck(Prices({"x": x, "y": y}, unit=unit), bundle)))
        self.assertEqual(set(seen), {True, False})

    def test_cases_with_one_item_changed(self):
        chance = chance_of("changed")
        seen = []
        for many in range(2, 6):
            for table in [rising_table(chance, FIVE[:many], 9), capped_table(FIVE[:many], [2, 2, 3, 2, 2][:many], 4)]:
                if is_substitutes(table):
                    continue
                case = stuck_case(table)
                for good in table.goods:
                    for by in [1, 2, 50]:
                        seen.append(self.check_both(table, Stuck(case.prices.raised(good, by), case.bundle)))
                        amounts = case.prices.amounts()
                        amounts[good] = max(0, amounts[good] - by)
                        seen.append(self.check_both(table, Stuck(Prices(amounts, unit=case.prices.unit), case.bundle)))
                for unit in [2, 3]:
                    seen.append(self.check_both(table, Stuck(Prices(case.prices.amounts(), unit=unit), case.bundle)))
                    same = Stuck(case.prices.in_unit(case.prices.unit * unit), case.bundle)
                    self.assertIs(check_stuck(table, same), True)
                for bundle in plain_bundles(table.goods):
                    seen.append(self.check_both(table, Stuck(case.prices, bundle)))
        self.assertEqual(set(seen), {True, False})

    def test_a_good_less_or_more(self):
        both = Table(["x", "y"], [3, 3, 7])
        case = stuck_case(both)
        for names in [("x",), ("y",), ("x", "y", "z"), ("a", "x", "y"), ("x", "z"), ("X", "y")[1:], ("w", "x")]:
            prices = Prices({name: 3 for name in names})
            for bundle in [(), ("x",), ("y",), ("z",), ("x", "y"), ("x", "y", "z")]:
                self.assertIs(check_stuck(both, Stuck(prices, bundle)), False)
        self.assertIs(check_stuck(both, case), True)
        self.assertIs(check_stuck(both.restricted(["x"]), case), False)

    def test_values_that_are_no_bundles(self):
        both = Table(["x", "y"], [3, 3, 7])
        prices = stuck_case(both).prices
        for value in [("z",), ("y", "x"), ("x", "x"), ("x", "y", "z"), ("",), ("x", "z"), ("X",), *any_values()[:-1]]:
            self.assertIs(check_stuck(both, Stuck(prices, value)), False)
