"""Points 5, 10, 11, 18 and 19: what a table is built from, tells, equals, and how it is written and read."""

import itertools

from bundlekinds.errors import BadBundle, BadCount, BadName, BadText, BadWorth, DuplicateName, NotRising
from bundlekinds.prices import Prices
from bundlekinds.tables import Table
from tests.samples import FIVE, MILLION, SMALL_NUMBERS, Case, any_values, chance_of, no_integers, plain_bundles
from tests.samples import rising_table


def first_fall(goods, numbers):
    """Return the bundle and the good that NotRising is due with, or None."""
    worths = dict(zip(plain_bundles(goods), [0, *numbers]))
    for bundle in plain_bundles(goods):
        for good in goods:
            if good not in bundle and worths[tuple(sorted(bundle + (good,)))] < worths[bundle]:
                return bundle, good
    return None


class Building(Case):
    def test_the_examples(self):
        table = Table(["y", "x"], [3, 3, 7])
        self.assertEqual([str(table), table(("x", "y")), table.ahead(("x",)).numbers], ["x y: 3 3 7", 7, (4,)])
        self.assertIs(Table.read("x y: 3 3 7") == table, True)
        self.check_raises(NotRising, {"value": ("y",), "name": "x"}, Table, ["x", "y"], [3, 5, 4])

    def test_one_to_five_goods_in_any_order(self):
        for many in range(1, 6):
            goods = FIVE[:many]
            numbers = tuple(range(1, 2 ** many))
            for names in itertools.permutations(goods):
                for table in [Table(list(names), list(numbers)), Table(names, numbers)]:
                    self.assertEqual(table.goods, goods)
                    self.assertEqual(table.numbers, numbers)
                    self.assertIs(table.goods.__class__, tuple)
                    self.assertIs(table.numbers.__class__, tuple)

    def test_the_worth_of_every_bundle(self):
        chance = chance_of("worths")
        for many in range(1, 6):
            table = rising_table(chance, FIVE[:many], 50)
            bundles = plain_bundles(FIVE[:many])
            self.assertEqual([table(bundle) for bundle in bundles], [0, *table.numbers])

    def test_the_least_and_the_greatest_worths(self):
        self.assertEqual(Table(["x"], [0]).numbers, (0,))
        self.assertEqual(Table(["x"], [MILLION])(("x",)), MILLION)
        self.assertEqual(Table(FIVE, [0] * 31)(FIVE), 0)
        self.assertEqual(Table(FIVE, [MILLION] * 31).numbers, (MILLION,) * 31)

    def test_the_arguments_may_be_passed_by_name(self):
        table = Table(numbers=[3, 3, 7], goods=["y", "x"])
        self.assertEqual(table.numbers, (3, 3, 7))
        self.assertEqual(table(bundle=("x",)), 3)

    def test_the_lists_stay_and_may_change_later(self):
        goods = ["y", "x"]
        numbers = [1, 2, 3]
        table = Table(goods, numbers)
        self.assertEqual([goods, numbers], [["y", "x"], [1, 2, 3]])
        goods[0] = "z"
        numbers[2] = 9
        numbers.append(1)
        goods.clear()
        self.assertEqual([table.goods, table.numbers, table(("x", "y"))], [("x", "y"), (1, 2, 3), 3])

    def test_the_lists_stay_when_they_are_refused(self):
        goods = ["y", "x"]
        numbers = [1, 2, 1]
        self.assertRaises(NotRising, Table, goods, numbers)
        self.assertEqual([goods, numbers], [["y", "x"], [1, 2, 1]])


class Refusing(Case):
    def test_the_errors_of_the_goods(self):
        self.check_raises(BadCount, {"count": 0}, Table, [], [])
        self.check_raises(BadCount, {"count": 6}, Table, list("abcdef"), [1] * 63)
        self.check_raises(BadName, {"name": "X"}, Table, ["a", "X"], [1, 1, 1])
        self.check_raises(DuplicateName, {"name": "a"}, Table, ["b", "a", "a"], [1] * 7)

    def test_the_goods_come_first(self):
        for numbers in [[], [1] * 9, [None], [-1, 2, 3], [3, 5, 4]]:
            self.check_raises(BadName, {"name": "1"}, Table, ["x", "1"], numbers)
            self.check_raises(DuplicateName, {"name": "x"}, Table, ["x", "x"], numbers)
            self.check_raises(BadCount, {"count": 0}, Table, [], numbers)

    def test_too_few_and_too_many_numbers(self):
        for many in range(1, 6):
            right = 2 ** many - 1
            for wrong in {0, right - 1, right + 1, many + 1, 2 * right, 40} - {right}:
                self.check_raises(BadCount, {"count": wrong}, Table, FIVE[:many], [1] * wrong)

    def test_the_count_of_the_numbers_comes_before_them(self):
        self.check_raises(BadCount, {"count": 2}, Table, ["x", "y"], [-1, None])
        self.check_raises(BadCount, {"count": 4}, Table, ["x", "y"], [5, 3, 4, MILLION + 1])

    def test_numbers_that_are_no_worths(self):
        for wrong in [-1, MILLION + 1, -10 ** 30, 10 ** 30, *no_integers()]:
            self.check_raises(BadWorth, {"worth": wrong}, Table, ["x"], [wrong])
            for at in range(7):
                numbers = [0] * 7
                numbers[at] = wrong
                self.check_raises(BadWorth, {"worth": wrong}, Table, ["x", "y", "z"], numbers)

    def test_the_first_number_that_is_no_worth_counts(self):
        self.check_raises(BadWorth, {"worth": True}, Table, ["x", "y"], [1, True, -1])
        self.check_raises(BadWorth, {"worth": -1}, Table, ["x", "y"], [-1, None, True])
        self.check_raises(BadWorth, {"worth": MILLION + 1}, Table, ["x", "y"], [MILLION, MILLION + 1, MILLION + 2])

    def test_the_error_holds_the_very_number(self):
        number = [1]
        self.check_keeps(BadWorth, "worth", number, Table, ["x"], [number])

    def test_worths_come_before_their_rising(self):
        self.check_raises(BadWorth, {"worth": -1}, Table, ["x", "y"], [3, 5, -1])
        self.check_raises(BadWorth, {"worth": False}, Table, ["x", "y", "z"], [5, 5, 5, 1, 1, 1, False])

    def test_a_fall_from_each_bundle_by_each_good(self):
        for many in range(2, 6):
            goods = FIVE[:many]
            bundles = plain_bundles(goods)
            for low in bundles[1:]:
                if len(low) == 1:
                    continue
                # Every bundle is worth 5, but one is worth 4: the first one without its last good comes first.
                numbers = [4 if bundle == low else 5 for bundle in bundles[1:]]
                self.check_raises(NotRising, {"value": low[:-1], "name": low[-1]}, Table, goods, numbers)

    def test_the_first_fall_of_many(self):
        chance = chance_of("falls")
        seen = set()
        for many in range(2, 6):
            goods = FIVE[:many]
            for _ in range(100):
                numbers = [len(bundle) * 3 + chance.randint(0, 4) for bundle in plain_bundles(goods)[1:]]
                due = first_fall(goods, numbers)
                if due is None:
                    self.assertEqual(Table(goods, numbers).numbers, tuple(numbers))
                else:
                    seen.add(len(due[0]))
                    self.check_raises(NotRising, {"value": due[0], "name": due[1]}, Table, goods, numbers)
        self.assertEqual(seen, {1, 2, 3, 4})

    def test_every_table_of_three_goods_that_rises_and_no_other_is_taken(self):
        goods = ("x", "y", "z")
        for numbers in itertools.product(range(3), repeat=7):
            due = first_fall(goods, numbers)
            self.assertEqual(due is None, numbers in SMALL_NUMBERS)
            if due is not None and sum(numbers) % 5 == 0:
                self.check_raises(NotRising, {"value": due[0], "name": due[1]}, Table, goods, numbers)

    def test_the_goods_of_a_fall_are_taken_in_their_order(self):
        self.check_raises(NotRising, {"value": ("b",), "name": "a"}, Table, ["c", "b", "a"], [0, 5, 0, 4, 0, 4, 5])
        self.check_raises(NotRising, {"value": ("b",), "name": "c"}, Table, ["c", "b", "a"], [0, 5, 0, 5, 0, 4, 5])
        self.check_raises(NotRising, {"value": ("a", "b"), "name": "c"}, Table, ["c", "b", "a"], [0, 0, 0, 5, 0, 6, 4])


class Asking(Case):
    table = Table(["x", "y"], [3, 3, 7])

    def test_values_that_are_no_bundles(self):
        for value in any_values()[:-1] + [("y", "x"), ("x", "x"), ("z",), ("x", "y", "z"), ("",)]:
            self.check_raises(BadBundle, {"value": value}, self.table, value)

    def test_the_error_holds_the_very_value(self):
        value = ["x"]
        self.check_keeps(BadBundle, "value", value, self.table, value)

    def test_the_empty_bundle(self):
        self.assertEqual(self.table(()), 0)

    def test_nothing_changes_after_an_error(self):
        self.assertRaises(BadBundle, self.table, ("z",))
        self.assertEqual(str(self.table), "x y: 3 3 7")

    def test_a_table_cannot_be_given_other_goods_or_numbers(self):
        for name in ["goods", "numbers"]:
            with self.assertRaises(AttributeError):
                setattr(self.table, name, ())


class Equality(Case):
    def test_equal_and_different_tables(self):
        table = Table(["x", "y"], [3, 3, 7])
        self.assertTrue(table == Table(("y", "x"), (3, 3, 7)))
        self.assertFalse(table != Table(("y", "x"), (3, 3, 7)))
        for other in [Table(["x", "y"], [3, 3, 6]), Table(["x", "y"], [3, 4, 7]), Table(["x", "z"], [3, 3, 7]),
                      Table(["x"], [3]), Table(["w", "x"], [3, 3, 7])]:
            self.assertFalse(table == other)
            self.assertTrue(table != other)

    def test_the_result_is_true_or_false_itself(self):
        table = Table(["x"], [1])
        self.assertIs(table == Table(["x"], [1]), True)
        self.assertIs(table == Table(["x"], [2]), False)
        self.assertIs(table == 1, False)

    def test_a_table_is_not_equal_to_a_value_of_another_kind(self):
        table = Table(["x"], [1])
        for value in any_values() + [1, "x: 1", ("x",), (("x",), (1,)), [["x"], [1]], Prices({"x": 1}), Table]:
            self.assertFalse(table == value)
            self.assertFalse(value == table)
            self.assertTrue(table != value)
            self.assertTrue(value != table)


class Texts(Case):
    def check_refused(self, texts):
        for text in texts:
            self.check_raises(BadText, {"text": text}, Table.read, text)

    def test_there_and_back(self):
        chance = chance_of("texts")
        for many in range(1, 6):
            for most in [0, 1, 7, 100, 300000]:
                table = rising_table(chance, FIVE[:many], most)
                words = [str(number) for number in table.numbers]
                self.assertEqual(str(table), " ".join(table.goods) + ": " + " ".join(words))
                self.assertEqual(Table.read(str(table)), table)
                self.assertEqual(Table.read(str(table)).goods, table.goods)
                self.assertEqual(Table.read(str(table)).numbers, table.numbers)

    def test_texts_written_out(self):
        self.assertEqual(str(Table(["tea"], [0])), "tea: 0")
        self.assertEqual(str(Table(["tea", "bun"], [1, 20, 1000000])), "bun tea: 1 20 1000000")
        self.assertEqual(Table.read("bun tea: 1 20 1000000").numbers, (1, 20, 1000000))
        self.assertEqual(Table.read(text="x: 0").numbers, (0,))

    def test_colons(self):
        self.check_refused(["", "x", "x 3", "x y 3 3 7", "x:", "x:3", "x 3:", ":", ": ", ": 3", " : 3", ":3", "x : 3"])
        self.check_refused(["x:: 3", "x: : 3", "x: 3:", "x: 3: 3", "x: y: 3", "x:y: 3", "x: 3 : 3", ": x: 3"])

    def test_no_number(self):
        self.check_refused(["x: ", "x:", "x y: ", "x:  ", "x: \n"])

    def test_blanks_and_newlines(self):
        self.check_refused([" x: 3", "x: 3 ", "x:  3", "x  y: 3 3 7", "x y:  3 3 7", "x y: 3  3 7", "x y: 3 3 7 "])
        self.check_refused(["x y : 3 3 7", "x: 3\n", "\nx: 3", "x:\n3", "x\ny: 3 3 7", "x: \n3", "x y: 3\n3 7"])
        self.check_refused(["x\n: 3", "x: 3\n4", "x\n y: 3 3 7"])

    def test_goods(self):
        self.check_refused(["y x: 3 3 7", "x x: 3 3 7", "x y x: 3 3 7 7 7 7 7", "X: 3", "1: 3", "x1 x: 1 2 3"])
        self.check_refused(["teapots: 3", "x, y: 3 3 7", "x_y: 3", "()", "(x): 3", "x X: 1 1 1"])
        self.check_refused(["-: 3", "- x: 1 1 1", "x -: 1 1 1", "-: 0"])

    def test_six_goods(self):
        ones = " ".join(["1"] * 31)
        self.assertEqual(Table.read("a b c d e: " + ones).numbers, (1,) * 31)
        self.check_refused(["a b c d e f: " + ones, "a b c d e f: " + ones + " " + ones + " 1", "a b c d e f: 1"])

    def test_numbers(self):
        self.check_refused(["x: 00", "x: 01", "x: -1", "x: +1", "x: 1.0", "x: 1e3", "x: 1_0", "x: x", "x: None"])
        self.check_refused(["x: 1234567890", "x: 0000000000", "x: 000000001", "x: 1,2", "x: ,", "x: -0"])
        self.check_refused(["x: 0x1", "x: 1-", "x: 1 +"])
        self.check_refused(["x y: 3 3 07", "x y: 03 3 7", "x y: 3 -3 7", "x y: 3 3 -", "x y: 1 2 1000000000", "x: (1)"])

    def test_a_text_of_the_wrong_form_comes_before_the_errors_of_the_constructor(self):
        self.check_refused(["x y: 3 03", "x y: 3 5 04", "x y: 3 1000000000", "y x: 1", "x: 1 2 3 x", "x x: 3 2 1"])

    def test_texts_of_the_right_form_that_the_constructor_refuses(self):
        self.check_raises(BadCount, {"count": 2}, Table.read, "x: 3 4")
        self.check_raises(BadCount, {"count": 1}, Table.read, "x y: 3")
        self.check_raises(BadCount, {"count": 2}, Table.read, "x y: 999999999 3")
        self.check_raises(BadCount, {"count": 32}, Table.read, "a b c d e: " + " ".join(["1"] * 32))
        self.check_raises(BadWorth, {"worth": 1000001}, Table.read, "x: 1000001")
        self.check_raises(BadWorth, {"worth": 999999999}, Table.read, "x y: 3 999999999 1000001")
        self.check_raises(BadWorth, {"worth": 100000000}, Table.read, "x y: 5 3 100000000")
        self.check_raises(NotRising, {"value": ("y",), "name": "x"}, Table.read, "x y: 3 5 4")
        self.check_raises(NotRising, {"value": ("x",), "name": "y"}, Table.read, "x y: 3 5 0")

    def test_every_short_text_that_is_read_is_the_text_of_its_table(self):
        read = []
        for many in range(7):
            for signs in itertools.product("x: 0\n", repeat=many):
                text = "".join(signs)
                try:
                    table = Table.read(text)
                except (BadText, BadCount):
                    continue
                self.assertEqual(str(table), text)
                read.append(text)
        self.assertEqual(read, ["x: 0", "xx: 0", "x0: 0", "xxx: 0", "xx0: 0", "x0x: 0", "x00: 0"])
