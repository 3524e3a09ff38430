"""Points 7, 10 and 29 to 31: the failures of a table, and whether its goods are substitutes."""

import itertools

from bundlekinds.kinds import check_failure, failures, first_failure, is_substitutes
from bundlekinds.prices import Prices
from bundlekinds.tables import Table
from tests.samples import (FIVE, MILLION, SMALL_NUMBERS, Case, any_values, capped_table, chance_of, curved_table,
                           failures_of, plain_bundles, rising_table, stuck_at, substitutes_tables)


def sample_tables():
    """Return tables with failures of pairs alone, of triples alone, of both and of none, of 1 to 5 goods."""
    chance = chance_of("failures")
    found = []
    for many in range(1, 6):
        goods = FIVE[:many]
        for most in [1, 6, 1000, 150000]:
            amounts = [chance.randint(0, most) for _ in goods]
            found.append(rising_table(chance, goods, most))
            found.append(capped_table(goods, amounts, sum(amounts) * 2 // 3))
            found.append(curved_table(goods, amounts, [size * size for size in range(many + 1)]))
            found.extend(substitutes_tables(chance, goods, most // 4))
    return found


class Failures(Case):
    both = Table(["x", "y"], [3, 3, 7])
    three = Table(["x", "y", "z"], [2, 2, 3, 4, 4, 4, 4])

    def test_the_examples(self):
        self.assertEqual([first_failure(self.both), first_failure(self.three),
                          is_substitutes(Table.one_of({"x": 2, "y": 5}))],
                         [("pair", (), "x", "y"), ("triple", (), "x", "y", "z"), True])

    def test_failures_written_out(self):
        self.assertEqual(failures(self.both), [("pair", (), "x", "y")])
        self.assertEqual(failures(self.three), [("triple", (), "x", "y", "z")])
        self.assertEqual(failures(Table(["x", "y", "z"], [0, 0, 0, 0, 0, 0, 1])),
                         [("pair", ("x",), "y", "z"), ("pair", ("y",), "x", "z"), ("pair", ("z",), "x", "y")])
        self.assertEqual(failures(Table(["x", "y", "z"], [0, 0, 0, 1, 1, 0, 1])),
                         [("pair", (), "x", "y"), ("pair", (), "x", "z")])
        self.assertEqual(failures(Table(["x", "y", "z"], [0, 0, 0, 0, 1, 0, 1])),
                         [("pair", (), "x", "z"), ("pair", ("y",), "x", "z"), ("triple", (), "x", "z", "y")])

    def test_they_are_told_with_tuples_and_new_lists(self):
        first = failures(self.three)
        self.assertIs(first.__class__, list)
        self.assertIs(first[0].__class__, tuple)
        self.assertIs(first[0][1].__class__, tuple)
        first.clear()
        self.assertEqual(failures(self.three), [("triple", (), "x", "y", "z")])

    def test_every_small_table_of_three_goods(self):
        for numbers in SMALL_NUMBERS:
            self.check_table(Table(["x", "y", "z"], numbers))

    def test_tables_of_all_kinds(self):
        kinds = set()
        for table in sample_tables():
            self.check_table(table)
            kinds.add(tuple(sorted({failure[0] for failure in failures(table)})))
        self.assertEqual(kinds, {(), ("pair",), ("triple",), ("pair", "triple")})

    def check_table(self, table):
        found = failures_of(table)
        self.assertEqual(failures(table), found)
        self.assertEqual(first_failure(table), found[0] if found else None)
        self.assertIs(is_substitutes(table), not found)

    def test_one_good(self):
        for number in [0, 1, MILLION]:
            table = Table(["x"], [number])
            self.assertEqual([failures(table), first_failure(table)], [[], None])
            self.assertIs(is_substitutes(table), True)

    def test_equal_sums_are_no_failure_and_one_more_is_one(self):
        for x, y in itertools.product([0, 1, 500, 400000], repeat=2):
            self.assertIs(is_substitutes(Table(["x", "y"], [x, y, x + y])), True)
            self.assertEqual(failures(Table(["x", "y"], [x, y, x + y + 1])), [("pair", (), "x", "y")])
        # The sums of the triple are 8, 7 and 8, then 8, 7 and 7.
        self.assertEqual(failures(Table(["x", "y", "z"], [4, 3, 3, 5, 4, 4, 5])), [])
        self.assertEqual(failures(Table(["x", "y", "z"], [3, 3, 3, 5, 4, 4, 5])), [("triple", (), "x", "y", "z")])

    def test_the_kinds_of_failures_of_three_goods(self):
        names = {("x", "y", "z"): [2, 2, 3, 4, 4, 4, 4], ("x", "z", "y"): [2, 3, 2, 4, 4, 4, 4],
                 ("y", "z", "x"): [3, 2, 2, 4, 4, 4, 4]}
        for told, numbers in names.items():
            self.assertEqual(failures(Table(["x", "y", "z"], numbers)), [("triple", (), *told)])

    def test_the_goods_are_substitutes_exactly_if_no_bundle_is_stuck_at_any_prices(self):
        amounts = [dict(zip("xyz", told)) for told in itertools.product(range(4), repeat=3)]
        some = [Prices(told) for told in amounts]
        bundles = plain_bundles(("x", "y", "z"))
        for numbers in SMALL_NUMBERS[::9]:
            table = Table(["x", "y", "z"], numbers)
            stuck = any(stuck_at(table, prices, bundle) for prices in some for bundle in bundles)
            self.assertIs(is_substitutes(table), not stuck)

    def test_the_arguments_may_be_passed_by_name(self):
        self.assertEqual(failures(table=self.both), [("pair", (), "x", "y")])
        self.assertEqual(first_failure(table=self.both), ("pair", (), "x", "y"))
        self.assertIs(is_substitutes(table=self.both), False)
        self.assertIs(check_failure(failure=("pair", (), "x", "y"), table=self.both), True)


class CheckFailure(Case):
    def test_every_tuple_of_the_form_of_a_failure(self):
        goods = ("x", "y", "z")
        names = goods + ("w",)
        for numbers in SMALL_NUMBERS[::7]:
            table = Table(goods, numbers)
            found = failures_of(table)
            for bundle in plain_bundles(goods):
                for told in itertools.product(names, repeat=2):
                    self.assertIs(check_failure(table, ("pair", bundle, *told)), ("pair", bundle, *told) in found)
                for told in itertools.product(names, repeat=3):
                    self.assertIs(check_failure(table, ("triple", bundle, *told)), ("triple", bundle, *told) in found)

    def test_each_failure_and_each_with_one_item_changed(self):
        others = ["pair", "triple", "", (), ("a",), ("a", "b1"), "a", "b1", "c", "d9", "x", None, True, 0, [], ["a"]]
        for table in sample_tables()[::2]:
            found = failures_of(table)
            for failure in found[:2] + found[-1:]:
                self.assertIs(check_failure(table, failure), True)
                for at, other in itertools.product(range(len(failure)), others):
                    changed = failure[:at] + (other,) + failure[at + 1:]
                    self.assertIs(check_failure(table, changed), changed in found)
                for changed in [list(failure), failure[:-1], failure + ("x",), failure + (None,), (failure,), [failure],
                                failure[:1] + (list(failure[1]),) + failure[2:]]:
                    self.assertIs(check_failure(table, changed), False)

    def test_any_values(self):
        for table in [Table(["x", "y"], [3, 3, 7]), Table(["x", "y"], [3, 3, 5]), Table(["x"], [1])]:
            for value in any_values() + ["pair", "triple", ("pair",), ("pair", ()), ("pair", (), "x"),
                                         ("pair", (), "y", "x"), ("pair", (), "x", "x"), ("pair", [], "x", "y"),
                                         ["pair", (), "x", "y"], ("pair", (), "x", "y", "y"), {"pair": ()}]:
                self.assertIs(check_failure(table, value), False)
        self.assertIs(check_failure(Table(["x", "y"], [3, 3, 7]), ("pair", (), "x", "y")), True)
        self.assertIs(check_failure(Table(["x", "y"], [3, 3, 6]), ("pair", (), "x", "y")), False)

    def test_the_value_stays(self):
        value = ["pair", [], "x", "y"]
        check_failure(Table(["x", "y"], [3, 3, 7]), value)
        self.assertEqual(value, ["pair", [], "x", "y"])
