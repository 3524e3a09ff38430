"""Points 7, 9, 10, 11 and 38 to 40: rises after which a good is dropped, for every table without substitutes."""

from bundlekinds.errors import IsSubstitutes
from bundlekinds.prices import Prices
from bundlekinds.rises import Rise, check_rise, kept, rise_case
from bundlekinds.tables import Table
from tests.families import (apart_tables, great_tables, pair_tables, rough_tables, shaken_tables, small_tables,
                            smooth_tables, triple_tables)
from tests.samples import (FIVE, Case, any_values, capped_table, chance_of, failures_of, plain_bundles, rising_table,
                           wanted_of)


def cheaper(one, other, good):
    """Tell whether the good costs less at the first prices."""
    return one.amounts()[good] * other.unit < other.amounts()[good] * one.unit


def is_rise(table, rise):
    """Tell whether a rise is as point 39 says, item by item."""
    before, after = rise.before, rise.after
    if before.goods != table.goods or after.goods != table.goods:
        return False
    if any(cheaper(after, before, good) for good in table.goods):
        return False
    if rise.bundle not in plain_bundles(table.goods) or rise.bundle not in wanted_of(table, before):
        return False
    if rise.good not in rise.bundle or cheaper(before, after, rise.good):
        return False
    return all(rise.good not in bundle for bundle in wanted_of(table, after))


class RiseCases(Case):
    def check_case(self, table):
        """Check the case of a table if there must be one, and the error if there is none; return the failures."""
        found = failures_of(table)
        if not found:
            self.check_raises(IsSubstitutes, {}, rise_case, table)
            return found
        text = str(table)
        case = rise_case(table)
        self.assertIs(case.__class__, Rise)
        self.assertIs(check_rise(table, case), True)
        self.assertIs(is_rise(table, case), True)
        self.assertEqual(len([good for good in table.goods if cheaper(case.before, case.after, good)]), 1)
        self.assertIs(kept(table, case.before, case.after, case.bundle), None)
        again = rise_case(Table(list(table.goods), list(table.numbers)))
        self.assertEqual([again.before, again.after, again.bundle, again.good],
                         [case.before, case.after, case.bundle, case.good])
        self.assertEqual(str(table), text)
        return found

    def check_kinds(self, tables, expected):
        """Check all cases; the tables have failures of just these kinds."""
        kinds = {tuple(sorted({failure[0] for failure in self.check_case(table)})) for table in tables}
        self.assertEqual(kinds, expected)

    def test_the_example(self):
        both = Table(["x", "y"], [3, 3, 7])
        self.assertIs(check_rise(both, rise_case(both)), True)

    def test_every_small_table_of_two_and_three_goods(self):
        self.check_kinds(small_tables(), {(), ("pair",), ("triple",), ("pair", "triple")})

    def test_failures_of_pairs_alone(self):
        self.check_kinds(pair_tables(chance_of("pairs")), {("pair",)})

    def test_failures_of_triples_alone(self):
        self.check_kinds(triple_tables(chance_of("triples")), {(), ("triple",)})

    def test_failures_of_both(self):
        kinds = {tuple(sorted({failure[0] for failure in self.check_case(table)}))
                 for table in rough_tables(chance_of("both"))}
        self.assertIn(("pair", "triple"), kinds)

    def test_worths_far_apart_from_good_to_good(self):
        for table in apart_tables(chance_of("apart")) + great_tables():
            self.check_case(table)

    def test_failures_over_bundles_that_are_not_empty(self):
        places = set()
        for _, table in shaken_tables(chance_of("shaken")):
            found = self.check_case(table)
            places.update({(found[0][0], len(found[0][1]))} if found else ())
        self.assertLessEqual({("pair", 2), ("pair", 3), ("triple", 1), ("triple", 2)}, places)

    def test_no_case_for_substitutes(self):
        for table in smooth_tables(chance_of("none")):
            self.check_raises(IsSubstitutes, {}, rise_case, table)
        self.check_raises(IsSubstitutes, {}, rise_case, table=Table.one_of({"x": 1, "y": 2}))


class CheckRise(Case):
    both = Table(["x", "y"], [3, 3, 7])
    low = Prices({"x": 3, "y": 4})

    def check_both(self, table, rise):
        """Check that a rise is accepted exactly if it is one."""
        expected = is_rise(table, rise)
        self.assertIs(check_rise(table, rise), expected)
        return expected

    def changes_of(self, case):
        """Return the rise with one item changed, in many ways."""
        before, after, bundle, good = case.before, case.after, case.bundle, case.good
        found = [Rise(after, before, bundle, good)]
        for name in before.goods:
            for by in [1, 2, 50]:
                found += [Rise(before.raised(name, by), after, bundle, good),
                          Rise(before, after.raised(name, by), bundle, good)]
                for prices in [before, after]:
                    amounts = prices.amounts()
                    amounts[name] = max(0, amounts[name] - by)
                    less = Prices(amounts, unit=prices.unit)
                    found.append(Rise(less, after, bundle, good) if prices is before else
                                 Rise(before, less, bundle, good))
            found.append(Rise(before, after, bundle, name))
        for unit in [2, 3]:
            found += [Rise(Prices(before.amounts(), unit=unit), after, bundle, good),
                      Rise(before, Prices(after.amounts(), unit=unit), bundle, good)]
        return found + [Rise(before, after, other, good) for other in plain_bundles(before.goods)]

    def test_the_properties(self):
        high = Prices({"x": 5, "y": 4}, unit=1)
        for rise in [Rise(self.low, high, ("x",), "x"), Rise(good="x", bundle=("x",), after=high, before=self.low)]:
            self.assertEqual([rise.before.amounts(), rise.after.amounts(), rise.bundle, rise.good],
                             [{"x": 3, "y": 4}, {"x": 5, "y": 4}, ("x",), "x"])
            for name in ["before", "after", "bundle", "good"]:
                with self.assertRaises(AttributeError):
                    setattr(rise, name, ())

    def test_a_rise_is_not_equal_to_a_value_of_another_kind(self):
        for value in any_values() + [self.low, (self.low, self.low, ("x",), "x"), self.both]:
            self.assertFalse(Rise(self.low, self.low, ("x",), "x") == value)
            self.assertTrue(Rise(self.low, self.low, ("x",), "x") != value)

    def test_the_arguments_may_be_passed_by_name(self):
        rise = Rise(self.low, self.low.raised("x", 9), ("x", "y"), "y")
        self.assertIs(check_rise(rise=rise, table=self.both), True)

    def test_every_rise_of_small_amounts(self):
        seen = []
        for numbers in [[3, 3, 7], [1, 1, 1], [0, 2, 3]]:
            table = Table(["x", "y"], numbers)
            prices = [Prices({"x": x, "y": y}, unit=unit) for x in range(4) for y in range(2, 5) for unit in [1, 2]]
            for before in prices:
                for after in prices:
                    for bundle in [("x",), ("y",), ("x", "y")]:
                        seen += [self.check_both(table, Rise(before, after, bundle, good)) for good in "xy"]
        self.assertEqual(set(seen), {True, False})

    def test_cases_with_one_item_changed(self):
        chance = chance_of("changed")
        seen = []
        for many in range(2, 6):
            for table in [rising_table(chance, FIVE[:many], 9), capped_table(FIVE[:many], [2, 2, 3, 2, 2][:many], 4),
                          Table(FIVE[:many], [1] * (2 ** many - 2) + [4])]:
                if failures_of(table):
                    case = rise_case(table)
                    seen += [self.check_both(table, rise) for rise in self.changes_of(case)]
                    for unit in [2, 3]:
                        same = Rise(case.before.in_unit(unit), case.after.in_unit(unit + 2), case.bundle, case.good)
                        self.assertIs(check_rise(table, same), True)
        self.assertEqual(set(seen), {True, False})

    def test_a_good_less_or_more(self):
        high = self.low.raised("x", 9)
        self.assertIs(check_rise(self.both, Rise(self.low, high, ("x", "y"), "y")), True)
        for names in [("x",), ("y",), ("x", "y", "z"), ("a", "x", "y"), ("x", "z"), ("w", "x")]:
            below = Prices({name: 3 for name in names})
            above = Prices({name: 12 for name in names})
            for before, after in [(below, high), (self.low, above), (below, above)]:
                for bundle, good in [(("x", "y"), "y"), (("x",), "x"), (names, names[-1])]:
                    self.assertIs(check_rise(self.both, Rise(before, after, bundle, good)), False)

    def test_values_that_are_no_bundles_and_goods_that_are_none(self):
        high = self.low.raised("x", 9)
        for value in [("z",), ("y", "x"), ("y", "y"), ("x", "y", "z"), ("",), ("x", "z"), ("X",), *any_values()]:
            self.assertIs(check_rise(self.both, Rise(self.low, high, value, "y")), False)
        for good in ["x", "z", "", "Y", "xy", "x y"]:
            self.assertIs(check_rise(self.both, Rise(self.low, high, ("x", "y"), good)), False)

    def test_each_condition_counts(self):
        high = self.low.raised("x", 9)
        wrong = [Rise(self.low, self.low, ("x", "y"), "y"), Rise(self.low, high.raised("y", 1), ("x", "y"), "y"),
                 Rise(self.low, Prices({"x": 12, "y": 3}), ("x", "y"), "y"), Rise(self.low, high, ("x",), "y"),
                 Rise(self.low, high, ("y",), "y"), Rise(self.low, high, ("x", "y"), "x"),
                 Rise(self.low.raised("y", 1), high.raised("y", 1), ("x", "y"), "y")]
        for rise in wrong:
            self.assertIs(check_rise(self.both, rise), False)
