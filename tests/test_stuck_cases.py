"""Points 7, 9, 10, 11, 35 and 36: prices at which a bundle is stuck, for every table whose goods are no substitutes."""

from bundlekinds.errors import IsSubstitutes
from bundlekinds.kinds import is_substitutes
from bundlekinds.prices import Prices
from bundlekinds.tables import Table
from bundlekinds.walks import Stuck, check_stuck, stuck_case
from tests.families import (apart_tables, great_tables, pair_tables, rough_tables, shaken_tables, small_tables,
                            smooth_tables, triple_tables)
from tests.samples import (FIVE, Case, any_values, capped_table, chance_of, failures_of, plain_bundles, rising_table,
                           stuck_at)


class StuckCases(Case):
    def check_case(self, table):
        """Check the case of a table if there must be one, and the error if there is none; return the failures."""
        found = failures_of(table)
        if not found:
            self.check_raises(IsSubstitutes, {}, stuck_case, table)
            return found
        text = str(table)
        case = stuck_case(table)
        self.assertIs(case.__class__, Stuck)
        self.assertIs(check_stuck(table, case), True)
        self.assertEqual(case.prices.goods, table.goods)
        self.assertIn(case.bundle, plain_bundles(table.goods))
        self.assertIs(stuck_at(table, case.prices, case.bundle), True)
        again = stuck_case(Table(list(table.goods), list(table.numbers)))
        self.assertEqual([again.prices, again.bundle], [case.prices, case.bundle])
        self.assertEqual([again.prices.amounts(), again.prices.unit], [case.prices.amounts(), case.prices.unit])
        self.assertEqual(str(table), text)
        return found

    def check_kinds(self, tables, wanted):
        """Check all cases; at least one table has failures of just the wanted kinds."""
        kinds = [tuple(sorted({failure[0] for failure in self.check_case(table)})) for table in tables]
        self.assertIn(wanted, kinds)
        return kinds

    def test_the_example(self):
        both = Table(["x", "y"], [3, 3, 7])
        self.assertIs(check_stuck(both, stuck_case(both)), True)

    def test_every_small_table_of_two_and_three_goods(self):
        kinds = self.check_kinds(small_tables(), ())
        self.assertEqual(set(kinds), {(), ("pair",), ("triple",), ("pair", "triple")})

    def test_failures_of_pairs_alone(self):
        for table in pair_tables(chance_of("pairs")):
            self.check_kinds([table], ("pair",))

    def test_failures_of_triples_alone(self):
        kinds = self.check_kinds(triple_tables(chance_of("triples")), ("triple",))
        self.assertEqual(set(kinds), {(), ("triple",)})

    def test_failures_of_both(self):
        self.check_kinds(rough_tables(chance_of("both")), ("pair", "triple"))

    def test_worths_far_apart_from_good_to_good(self):
        self.check_kinds(apart_tables(chance_of("apart")), ("triple",))

    def test_the_greatest_worths(self):
        self.check_kinds(great_tables(), ("triple",))

    def test_failures_over_bundles_that_are_not_empty(self):
        places = set()
        for size, table in shaken_tables(chance_of("shaken")):
            found = self.check_case(table)
            if found:
                self.assertGreaterEqual(len(found[0][1]), size - 2)
                places.add((found[0][0], len(found[0][1])))
        self.assertEqual(places, {("pair", 1), ("pair", 2), ("pair", 3), ("triple", 1), ("triple", 2)})

    def test_no_case_for_substitutes(self):
        for table in smooth_tables(chance_of("none")):
            self.check_raises(IsSubstitutes, {}, stuck_case, table)
            self.check_raises(IsSubstitutes, {}, stuck_case, table=table)


class CheckStuck(Case):
    def check_both(self, table, case):
        """Check that a case is accepted exactly if it is one."""
        expected = (case.prices.goods == table.goods and case.bundle in plain_bundles(table.goods)
                    and stuck_at(table, case.prices, case.bundle))
        self.assertIs(check_stuck(table, case), expected)
        return expected

    def test_the_properties(self):
        prices = Prices({"x": 3, "y": 3}, unit=2)
        for case in [Stuck(prices, ("x",)), Stuck(bundle=("x",), prices=prices)]:
            self.assertTrue(case.prices == prices)
            self.assertEqual([case.prices.unit, case.bundle], [2, ("x",)])
            for name in ["prices", "bundle"]:
                with self.assertRaises(AttributeError):
                    setattr(case, name, ())

    def test_a_case_is_not_equal_to_a_value_of_another_kind(self):
        prices = Prices({"x": 1})
        for value in any_values() + [prices, (prices, ()), Table(["x"], [1])]:
            self.assertFalse(Stuck(prices, ()) == value)
            self.assertTrue(Stuck(prices, ()) != value)

    def test_the_arguments_may_be_passed_by_name(self):
        both = Table(["x", "y"], [3, 3, 7])
        self.assertIs(check_stuck(stuck=Stuck(Prices({"x": 3, "y": 3}), ()), table=both), True)

    def test_every_case_of_small_amounts(self):
        tables = [Table(["x", "y"], [3, 3, 7]), Table(["x", "y"], [3, 2, 5]), Table(["x", "y"], [0, 1, 3])]
        seen = []
        for table in tables:
            for x in range(6):
                for y in range(6):
                    for unit in [1, 2]:
                        for bundle in plain_bundles(("x", "y")):
                            seen.append(self.check_both(table, Stuck(Prices({"x": x, "y": y}, unit=unit), bundle)))
        self.assertEqual(set(seen), {True, False})

    def test_cases_with_one_item_changed(self):
        chance = chance_of("changed")
        seen = []
        for many in range(2, 6):
            for table in [rising_table(chance, FIVE[:many], 9), capped_table(FIVE[:many], [2, 2, 3, 2, 2][:many], 4)]:
                if is_substitutes(table):
                    continue
                case = stuck_case(table)
                for good in table.goods:
                    for by in [1, 2, 50]:
                        seen.append(self.check_both(table, Stuck(case.prices.raised(good, by), case.bundle)))
                        amounts = case.prices.amounts()
                        amounts[good] = max(0, amounts[good] - by)
                        seen.append(self.check_both(table, Stuck(Prices(amounts, unit=case.prices.unit), case.bundle)))
                for unit in [2, 3]:
                    seen.append(self.check_both(table, Stuck(Prices(case.prices.amounts(), unit=unit), case.bundle)))
                    same = Stuck(case.prices.in_unit(case.prices.unit * unit), case.bundle)
                    self.assertIs(check_stuck(table, same), True)
                for bundle in plain_bundles(table.goods):
                    seen.append(self.check_both(table, Stuck(case.prices, bundle)))
        self.assertEqual(set(seen), {True, False})

    def test_a_good_less_or_more(self):
        both = Table(["x", "y"], [3, 3, 7])
        case = stuck_case(both)
        for names in [("x",), ("y",), ("x", "y", "z"), ("a", "x", "y"), ("x", "z"), ("X", "y")[1:], ("w", "x")]:
            prices = Prices({name: 3 for name in names})
            for bundle in [(), ("x",), ("y",), ("z",), ("x", "y"), ("x", "y", "z")]:
                self.assertIs(check_stuck(both, Stuck(prices, bundle)), False)
        self.assertIs(check_stuck(both, case), True)
        self.assertIs(check_stuck(both.restricted(["x"]), case), False)

    def test_values_that_are_no_bundles(self):
        both = Table(["x", "y"], [3, 3, 7])
        prices = stuck_case(both).prices
        for value in [("z",), ("y", "x"), ("x", "x"), ("x", "y", "z"), ("",), ("x", "z"), ("X",), *any_values()[:-1]]:
            self.assertIs(check_stuck(both, Stuck(prices, value)), False)
