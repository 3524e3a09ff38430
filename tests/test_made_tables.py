"""Points 10, 14 and 20 to 23: tables that are made of amounts, of rows, and of other tables."""

import itertools

from bundlekinds.errors import (BadBundle, BadCount, BadFactor, BadName, BadSteps, BadWorth, DuplicateName, NotNested,
                                UnknownName, UnlikeGoods)
from bundlekinds.kinds import failures, is_substitutes
from bundlekinds.tables import Table
from tests.samples import (FIVE, MILLION, SMALL_NUMBERS, Case, any_values, chain_rows, chance_of, no_integers,
                           plain_bundles, rising_table, substitutes_tables, table_by, worths_of)

NO_WORTHS = [-1, MILLION + 1, -10 ** 30, 10 ** 30, *no_integers()]


def plain(amounts):
    return Table.plain(amounts)


def one_of(amounts):
    return Table.one_of(amounts)


def some_of(amounts):
    return Table.some_of(amounts, 1)


def some_amounts(chance, goods, most):
    """Return a dict of amounts of the goods, its keys in any order."""
    names = list(goods)
    chance.shuffle(names)
    return {name: chance.randint(0, most) for name in names}


class FromAmounts(Case):
    def test_the_examples(self):
        self.assertEqual([Table.one_of({"x": 2, "y": 5}).numbers,
                          Table.some_of({"x": 2, "y": 5, "z": 1}, 2)(("x", "y", "z"))], [(2, 5, 5), 7])

    def test_all_bundles_of_one_to_five_goods_in_any_order_of_the_keys(self):
        chance = chance_of("amounts")
        for many in range(1, 6):
            for most_amount in [1, 9, 200000]:
                for _ in range(5):
                    amounts = some_amounts(chance, FIVE[:many], most_amount)
                    self.check_worths(amounts)

    def check_worths(self, amounts):
        tables = [Table.some_of(amounts, most) for most in range(len(amounts) + 1)]
        for table in [Table.plain(amounts), Table.one_of(amounts), *tables]:
            self.assertIs(table.__class__, Table)
            self.assertEqual(table.goods, tuple(sorted(amounts)))
        for bundle in plain_bundles(sorted(amounts)):
            those = [amounts[good] for good in bundle]
            self.assertEqual(Table.plain(amounts)(bundle), sum(those))
            self.assertEqual(Table.one_of(amounts)(bundle), max(those, default=0))
            for most, table in enumerate(tables):
                # The greatest ones make the greatest sum of any so many of them.
                sums = [sum(part) for part in itertools.combinations(those, min(most, len(those)))]
                self.assertEqual(table(bundle), max(sums))

    def test_the_order_of_the_keys_has_no_meaning(self):
        for make in [plain, one_of, some_of]:
            self.assertEqual(make({"x": 1, "y": 2, "z": 3}), make({"z": 3, "x": 1, "y": 2}))

    def test_the_dict_stays_and_may_change_later(self):
        for make in [plain, one_of, some_of]:
            amounts = {"y": 4, "x": 3}
            table = make(amounts)
            numbers = table.numbers
            self.assertEqual(list(amounts.items()), [("y", 4), ("x", 3)])
            amounts["x"] = 9
            del amounts["y"]
            self.assertEqual([table.goods, table.numbers], [("x", "y"), numbers])

    def test_the_arguments_may_be_passed_by_name(self):
        self.assertEqual(Table.plain(amounts={"x": 1, "y": 2}).numbers, (1, 2, 3))
        self.assertEqual(Table.one_of(amounts={"x": 1, "y": 2}).numbers, (1, 2, 2))
        self.assertEqual(Table.some_of(most=2, amounts={"x": 1, "y": 2}).numbers, (1, 2, 3))

    def test_no_key_and_six_keys(self):
        for make in [plain, one_of, some_of]:
            self.check_raises(BadCount, {"count": 0}, make, {})
            self.check_raises(BadCount, {"count": 6}, make, dict.fromkeys("abcdef", 1))
            self.check_raises(BadCount, {"count": 6}, make, dict.fromkeys("abcdeF", None))

    def test_keys_that_are_no_names(self):
        for make in [plain, one_of, some_of]:
            for name in ["", "X", "1", "teapots", "x y", "x\n", "-"]:
                self.check_raises(BadName, {"name": name}, make, {"x": 1, name: 1})
                self.check_raises(BadName, {"name": name}, make, {name: -1, "x": None})
            # The first one in ascending order counts.
            self.check_raises(BadName, {"name": "A"}, make, {"z": 1, "C": 1, "B": 1, "A": 1})

    def test_amounts_that_are_no_worths(self):
        for make in [plain, one_of, some_of]:
            for wrong in NO_WORTHS:
                self.check_raises(BadWorth, {"worth": wrong}, make, {"x": wrong})
                self.check_raises(BadWorth, {"worth": wrong}, make, {"z": -2, "y": wrong, "x": 1})
            self.check_raises(BadWorth, {"worth": True}, make, {"y": None, "x": True})

    def test_the_count_that_some_of_takes(self):
        for many in range(1, 6):
            amounts = dict.fromkeys(FIVE[:many], 3)
            for most in range(many + 1):
                self.assertEqual(Table.some_of(amounts, most)(FIVE[:many]), 3 * most)
            for wrong in [-1, many + 1, many + 2, -10 ** 30, 10 ** 30, *no_integers()]:
                self.check_raises(BadCount, {"count": wrong}, Table.some_of, amounts, wrong)

    def test_the_order_of_the_errors_of_some_of(self):
        self.check_raises(BadCount, {"count": 0}, Table.some_of, {}, -1)
        self.check_raises(BadCount, {"count": 0}, Table.some_of, {}, 0)
        self.check_raises(BadName, {"name": "X"}, Table.some_of, {"X": 1}, 2)
        self.check_raises(BadWorth, {"worth": -1}, Table.some_of, {"x": -1}, 2)
        self.check_raises(BadCount, {"count": 3}, Table.some_of, {"x": MILLION, "y": MILLION}, 3)
        self.check_raises(BadWorth, {"worth": 2 * MILLION}, Table.some_of, {"x": MILLION, "y": MILLION}, 2)

    def test_a_worth_above_the_greatest_one(self):
        self.assertEqual(Table.plain({"x": 600000, "y": 400000}).numbers, (600000, 400000, MILLION))
        self.check_raises(BadWorth, {"worth": MILLION + 1}, Table.plain, {"x": 600000, "y": 400001})
        amounts = {"x": 300000, "y": 600000, "z": 500000}
        self.check_raises(BadWorth, {"worth": 1100000}, Table.plain, amounts)
        self.check_raises(BadWorth, {"worth": 1100000}, Table.some_of, amounts, 2)
        self.check_raises(BadWorth, {"worth": 1200000}, Table.some_of, dict.fromkeys("abcde", 400000), 3)
        self.assertEqual(Table.some_of(amounts, 1).numbers, Table.one_of(amounts).numbers)
        self.assertEqual(Table.some_of(dict.fromkeys(FIVE, MILLION), 0).numbers, (0,) * 31)


class Nested(Case):
    def test_the_example(self):
        nested = Table.nested(["x", "y", "z"], [(("x", "y"), [5, 2]), (("x", "y", "z"), [4, 1, 0])])
        self.assertEqual(nested.numbers, (9, 9, 4, 12, 10, 10, 12))

    def test_nested_equal_disjoint_and_empty_bundles(self):
        self.assertEqual(Table.nested(["x", "y"], []).numbers, (0, 0, 0))
        self.assertEqual(Table.nested(["x", "y"], [((), [])]).numbers, (0, 0, 0))
        self.assertEqual(Table.nested(["y", "x"], [(("x",), [3]), ((), []), (("y",), [4])]).numbers, (3, 4, 7))
        self.assertEqual(Table.nested(["x", "y"], [(("x",), [3]), (("x",), [4])]).numbers, (7, 0, 7))
        rows = [(("x", "y"), [5, 1]), (("x", "y"), [2, 2]), (("y",), [3])]
        self.assertEqual(Table.nested(["x", "y", "z"], rows).numbers, (7, 10, 0, 13, 7, 10, 13))
        rows = [(("y",), [3]), (("z",), [1]), (("x", "y", "z"), [9, 5, 0])]
        self.assertEqual(Table.nested(["x", "y", "z"], rows).numbers, (9, 12, 10, 17, 15, 18, 18))

    def test_all_bundles_by_their_sums(self):
        chance = chance_of("nested")
        for many in range(1, 6):
            for _ in range(20):
                rows = chain_rows(chance, FIVE[:many], 50)
                chance.shuffle(rows)
                table = Table.nested(list(reversed(FIVE[:many])), rows)
                self.assertIs(table.__class__, Table)
                self.assertEqual(table.goods, FIVE[:many])
                for bundle in plain_bundles(FIVE[:many]):
                    worth = 0
                    for part, steps in rows:
                        for at in range(len(set(part) & set(bundle))):
                            worth += steps[at]
                    self.assertEqual(table(bundle), worth)

    def test_twelve_rows_and_some_more(self):
        for many in [12, 13, 20]:
            self.assertEqual(Table.nested(["x"], [(("x",), [1])] * many).numbers, (many,))

    def test_tuples_for_lists_and_names_for_arguments(self):
        table = Table.nested(rows=((("x", "y"), (5, 2)),), goods=("y", "x"))
        self.assertEqual(table, Table.nested(["x", "y"], [(("x", "y"), [5, 2])]))
        self.assertEqual(table.numbers, (5, 5, 7))

    def test_the_lists_stay_and_may_change_later(self):
        goods = ["y", "x"]
        steps = [5, 2]
        rows = [(("x", "y"), steps)]
        table = Table.nested(goods, rows)
        self.assertEqual([goods, rows], [["y", "x"], [(("x", "y"), [5, 2])]])
        steps[0] = 1
        rows.clear()
        goods.clear()
        self.assertEqual([table.goods, table.numbers], [("x", "y"), (5, 5, 7)])

    def test_the_errors_of_the_goods_come_first(self):
        self.check_raises(BadCount, {"count": 0}, Table.nested, [], [(None, [])])
        self.check_raises(BadCount, {"count": 6}, Table.nested, list("abcdef"), [(None, [])])
        self.check_raises(BadName, {"name": "X"}, Table.nested, ["x", "X"], [(None, [])])
        self.check_raises(DuplicateName, {"name": "x"}, Table.nested, ["x", "x"], [(("x",), [-1])])

    def test_any_value_as_a_bundle(self):
        for value in any_values()[:-1] + [("y", "x"), ("x", "x"), ("z",), ("x", "y", "z")]:
            self.check_raises(BadBundle, {"value": value}, Table.nested, ["x", "y"], [(value, [1])])
            self.check_raises(BadBundle, {"value": value}, Table.nested, ["x", "y"], [(("x",), [1]), (value, [-1])])
        value = ["x"]
        self.check_keeps(BadBundle, "value", value, Table.nested, ["x", "y"], [(value, [1])])

    def test_too_few_and_too_many_steps(self):
        for bundle in plain_bundles(("x", "y", "z")):
            for many in range(6):
                if many != len(bundle):
                    self.check_raises(BadSteps, {"steps": [1] * many}, Table.nested, ["x", "y", "z"],
                                      [(bundle, [1] * many)])

    def test_rising_steps(self):
        for steps in [[1, 2, 2], [2, 1, 2], [0, 0, 1], [1, 2, 3], [MILLION - 1, MILLION, 0]]:
            self.check_raises(BadSteps, {"steps": steps}, Table.nested, ["x", "y", "z"], [(("x", "y", "z"), steps)])
        for steps in [[2, 2, 2], [2, 2, 1], [3, 1, 0], [0, 0, 0]]:
            self.assertEqual(Table.nested(["x", "y", "z"], [(("x", "y", "z"), steps)])(("x", "y", "z")), sum(steps))

    def test_unsound_steps(self):
        for wrong in NO_WORTHS:
            for steps in [[wrong, 1], [1, wrong], [wrong, wrong]]:
                self.check_raises(BadSteps, {"steps": steps}, Table.nested, ["x", "y"], [(("x", "y"), steps)])

    def test_the_error_holds_the_very_steps(self):
        steps = [1, 2]
        self.check_keeps(BadSteps, "steps", steps, Table.nested, ["x", "y"], [(("x", "y"), steps)])

    def test_which_bundles_overlap(self):
        for one in plain_bundles(FIVE[:4]):
            for other in plain_bundles(FIVE[:4]):
                rows = [(one, [1] * len(one)), (other, [1] * len(other))]
                shared = set(one) & set(other)
                if shared and not set(one) <= set(other) and not set(other) <= set(one):
                    self.check_raises(NotNested, {"value": other}, Table.nested, FIVE[:4], rows)
                else:
                    self.assertEqual(Table.nested(FIVE[:4], rows)(one), len(one) + len(shared))

    def test_an_overlap_with_any_earlier_row(self):
        rows = [(("x", "y"), [1, 1]), (("x",), [1]), (("z",), [1]), (("y", "z"), [1, 1])]
        self.check_raises(NotNested, {"value": ("y", "z")}, Table.nested, ["x", "y", "z"], rows)
        self.check_raises(NotNested, {"value": ("x", "y")}, Table.nested, ["x", "y", "z"], rows[::-1])

    def test_the_first_error_that_is_due(self):
        goods = ["x", "y", "z"]
        first = (("x", "y"), [1, 1])
        self.check_raises(BadSteps, {"steps": [1, 2]}, Table.nested, goods, [(("x", "y"), [1, 2]), (None, [])])
        self.check_raises(BadBundle, {"value": None}, Table.nested, goods, [(None, []), (("x", "y"), [1, 2])])
        self.check_raises(BadSteps, {"steps": [1]}, Table.nested, goods, [first, (("y", "z"), [1])])
        self.check_raises(NotNested, {"value": ("y", "z")}, Table.nested, goods, [first, (("y", "z"), [1, 1]), (1, [])])
        self.check_raises(BadBundle, {"value": 1}, Table.nested, goods, [first, (1, []), (("y", "z"), [1, 1])])
        dear = (("z",), [MILLION])
        self.check_raises(NotNested, {"value": ("y", "z")}, Table.nested, goods,
                          [dear, dear, first, (("y", "z"), [1, 1])])

    def test_a_worth_above_the_greatest_one(self):
        rows = [(("x", "y", "z"), [500000, 400000, 200000]), (("x",), [100000])]
        self.check_raises(BadWorth, {"worth": 1100000}, Table.nested, ["x", "y", "z"], rows + [(("y",), [100000])])
        self.check_raises(BadWorth, {"worth": 1200000}, Table.nested, ["x", "y", "z"], rows)
        self.check_raises(BadWorth, {"worth": 2 * MILLION}, Table.nested, ["x"], [(("x",), [MILLION])] * 2)
        self.assertEqual(Table.nested(["x"], [(("x",), [MILLION])]).numbers, (MILLION,))


class Restricted(Case):
    def test_every_bundle_of_a_table(self):
        chance = chance_of("restricted")
        for many in range(1, 6):
            table = rising_table(chance, FIVE[:many], 30)
            text = str(table)
            for goods in plain_bundles(FIVE[:many])[1:]:
                part = table.restricted(list(reversed(goods)))
                self.assertIs(part.__class__, Table)
                self.assertEqual(part, table_by(goods, table))
                self.assertEqual(part, table.restricted(goods=goods))
            self.assertEqual(str(table), text)

    def test_errors(self):
        table = Table(["x", "y"], [3, 3, 7])
        self.check_raises(BadCount, {"count": 0}, table.restricted, [])
        self.check_raises(BadCount, {"count": 6}, table.restricted, list("abcdef"))
        self.check_raises(BadName, {"name": "X"}, table.restricted, ["z", "X"])
        self.check_raises(DuplicateName, {"name": "z"}, table.restricted, ["x", "z", "z"])
        self.check_raises(UnknownName, {"name": "z"}, table.restricted, ["z"])
        self.check_raises(UnknownName, {"name": "a"}, table.restricted, ["z", "x", "a"])
        self.check_raises(UnknownName, {"name": "w"}, table.restricted, ["z", "y", "x", "w"])
        self.assertEqual(str(table), "x y: 3 3 7")

    def test_the_list_stays(self):
        goods = ["y", "x"]
        Table(["x", "y"], [3, 3, 7]).restricted(goods)
        self.assertEqual(goods, ["y", "x"])


class Ahead(Case):
    def test_every_bundle_of_a_table(self):
        chance = chance_of("ahead")
        for many in range(1, 6):
            table = rising_table(chance, FIVE[:many], 30)
            worths = worths_of(table)
            text = str(table)
            for bundle in plain_bundles(FIVE[:many])[:-1]:
                part = table.ahead(bundle)
                goods = tuple(good for good in FIVE[:many] if good not in bundle)
                self.assertIs(part.__class__, Table)
                self.assertEqual(part.goods, goods)
                for more in plain_bundles(goods):
                    self.assertEqual(part(more), worths[tuple(sorted(bundle + more))] - worths[bundle])
            self.assertEqual(str(table), text)

    def test_ahead_of_nothing(self):
        table = Table(["x", "y"], [3, 3, 7])
        self.assertEqual(table.ahead(bundle=()), table)

    def test_errors(self):
        table = Table(["x", "y"], [3, 3, 7])
        for value in any_values()[:-1] + [("y", "x"), ("z",), ("x", "y", "z")]:
            self.check_raises(BadBundle, {"value": value}, table.ahead, value)
        self.check_raises(BadCount, {"count": 0}, table.ahead, ("x", "y"))
        self.check_raises(BadCount, {"count": 0}, Table(FIVE, range(31)).ahead, FIVE)
        value = ["x", "y"]
        self.check_keeps(BadBundle, "value", value, table.ahead, value)
        self.assertEqual(str(table), "x y: 3 3 7")


class PlusAndTimes(Case):
    table = Table(["x", "y"], [3, 3, 7])

    def test_plus_for_every_bundle(self):
        chance = chance_of("plus")
        for many in range(1, 6):
            table = rising_table(chance, FIVE[:many], 30)
            text = str(table)
            amounts = some_amounts(chance, FIVE[:many], 40)
            kept = dict(amounts)
            more = table.plus(amounts)
            self.assertIs(more.__class__, Table)
            self.assertEqual(more.goods, table.goods)
            for bundle in plain_bundles(FIVE[:many]):
                self.assertEqual(more(bundle), table(bundle) + sum(amounts[good] for good in bundle))
            self.assertEqual([str(table), amounts], [text, kept])
            amounts.clear()
            self.assertEqual(more, table.plus(amounts=kept))

    def test_plus_with_amounts_for_other_goods(self):
        for names in [(), ("x",), ("y",), ("x", "z"), ("x", "y", "z"), ("X", "x", "y"), ("a", "b", "c", "d", "e", "f")]:
            self.check_raises(UnlikeGoods, {"names": names}, self.table.plus, dict.fromkeys(reversed(names), -1))

    def test_plus_with_amounts_that_are_no_worths(self):
        for wrong in NO_WORTHS:
            self.check_raises(BadWorth, {"worth": wrong}, self.table.plus, {"x": wrong, "y": 1})
            self.check_raises(BadWorth, {"worth": wrong}, self.table.plus, {"y": wrong, "x": MILLION})
            self.check_raises(BadWorth, {"worth": wrong}, self.table.plus, {"y": -2, "x": wrong})
        self.assertEqual(str(self.table), "x y: 3 3 7")

    def test_plus_with_a_worth_above_the_greatest_one(self):
        self.check_raises(BadWorth, {"worth": MILLION + 1}, self.table.plus, {"x": 0, "y": MILLION - 2})
        self.check_raises(BadWorth, {"worth": MILLION + 7}, self.table.plus, {"x": 500000, "y": 500000})
        self.check_raises(BadWorth, {"worth": MILLION + 3}, self.table.plus, {"x": MILLION, "y": MILLION})
        self.assertEqual(self.table.plus({"x": 0, "y": MILLION - 7}).numbers, (3, MILLION - 4, MILLION))

    def test_times(self):
        chance = chance_of("times")
        for many in range(1, 6):
            table = rising_table(chance, FIVE[:many], 30)
            for factor in [1, 2, 7, 999, 1000]:
                more = table.times(factor)
                self.assertIs(more.__class__, Table)
                self.assertEqual(more.goods, table.goods)
                self.assertEqual(more.numbers, tuple(number * factor for number in table.numbers))
        self.assertEqual(self.table.times(factor=2).numbers, (6, 6, 14))
        self.assertEqual(str(self.table), "x y: 3 3 7")

    def test_times_with_a_factor_that_is_none(self):
        for wrong in [0, -1, 1001, 10 ** 30, -10 ** 30, *no_integers()]:
            self.check_raises(BadFactor, {"value": wrong}, self.table.times, wrong)
            self.check_raises(BadFactor, {"value": wrong}, Table(["x"], [MILLION]).times, wrong)

    def test_times_with_a_worth_above_the_greatest_one(self):
        self.assertEqual(Table(["x"], [500000]).times(2).numbers, (MILLION,))
        self.check_raises(BadWorth, {"worth": MILLION + 2}, Table(["x"], [500001]).times, 2)
        self.check_raises(BadWorth, {"worth": 1200000}, Table(["x", "y"], [3, 600000, 700000]).times, 2)
        self.check_raises(BadWorth, {"worth": 1000 * MILLION}, Table(["x"], [MILLION]).times, 1000)


class Kinds(Case):
    def test_what_is_made_of_amounts_and_rows_is_substitutes(self):
        chance = chance_of("kinds")
        for many in range(1, 6):
            for most in [1, 3, 10, 20000]:
                for _ in range(4):
                    for table in substitutes_tables(chance, FIVE[:many], most):
                        self.assertIs(is_substitutes(table), True)

    def test_every_some_of_is_substitutes(self):
        for amounts in itertools.product([0, 1, 2, 5], repeat=4):
            for most in range(5):
                self.assertIs(is_substitutes(Table.some_of(dict(zip("wxyz", amounts)), most)), True)

    def test_what_is_made_of_substitutes_is_substitutes(self):
        chance = chance_of("made")
        for many in range(2, 6):
            for table in substitutes_tables(chance, FIVE[:many], 9):
                for bundle in plain_bundles(FIVE[:many])[1:-1]:
                    self.assertIs(is_substitutes(table.restricted(bundle)), True)
                    self.assertIs(is_substitutes(table.ahead(bundle)), True)
                self.assertIs(is_substitutes(table.plus(some_amounts(chance, FIVE[:many], 9))), True)
                self.assertIs(is_substitutes(table.times(chance.randint(1, 1000))), True)

    def test_plus_and_times_keep_the_failures_of_three_goods(self):
        chance = chance_of("keep")
        for numbers in SMALL_NUMBERS:
            table = Table(["x", "y", "z"], numbers)
            self.assertEqual(failures(table.plus(some_amounts(chance, "xyz", 9))), failures(table))
            self.assertEqual(failures(table.times(chance.randint(1, 1000))), failures(table))

    def test_plus_and_times_keep_the_failures_of_more_goods(self):
        chance = chance_of("keep more")
        for many in [4, 5]:
            for _ in range(10):
                table = rising_table(chance, FIVE[:many], 30)
                found = failures(table)
                self.assertTrue(found)
                self.assertEqual(failures(table.plus(some_amounts(chance, FIVE[:many], 9))), found)
                self.assertEqual(failures(table.times(chance.randint(1, 1000))), found)
