"""Points 3, 4, 10, 11 and 14 to 17: goods and bundles."""

import itertools
import unittest

from bundlekinds.bundles import (all_bundles, bundle_text, common, goods_of, is_bundle, read_bundle, rest, splits,
                                 union)
from bundlekinds.errors import BadCount, BadName, BadText, DuplicateName
from tests.samples import FIVE, plain_bundles


class GoodsOf(unittest.TestCase):
    def check_raises(self, kind, key, value, names):
        for given in [list(names), tuple(names)]:
            with self.subTest(names=names):
                with self.assertRaises(kind) as told:
                    goods_of(given)
                self.assertIs(told.exception.__class__, kind)
                self.assertEqual(getattr(told.exception, key), value)

    def test_the_examples(self):
        self.assertEqual(goods_of(["tea", "bun"]), ("bun", "tea"))
        self.check_raises(DuplicateName, "name", "tea", ["tea", "bun", "tea"])

    def test_one_to_five_names_in_any_order(self):
        for many in range(1, 6):
            for names in itertools.permutations(FIVE[:many]):
                self.assertEqual(goods_of(list(names)), FIVE[:many])

    def test_names_are_ordered_as_strings_are(self):
        self.assertEqual(goods_of(["b", "a9", "ab", "a10", "a"]), ("a", "a10", "a9", "ab", "b"))

    def test_a_tuple_is_returned_for_a_list_and_for_a_tuple(self):
        self.assertIs(goods_of(["x"]).__class__, tuple)
        self.assertIs(goods_of(("x",)).__class__, tuple)
        self.assertEqual(goods_of(("y", "x")), goods_of(["y", "x"]))

    def test_the_list_stays_and_may_change_later(self):
        names = ["tea", "bun"]
        goods = goods_of(names)
        self.assertEqual(names, ["tea", "bun"])
        names.append("jam")
        names[0] = "x"
        self.assertEqual(goods, ("bun", "tea"))

    def test_the_list_stays_also_when_it_is_refused(self):
        names = ["tea", "bun", "tea"]
        self.assertRaises(DuplicateName, goods_of, names)
        self.assertEqual(names, ["tea", "bun", "tea"])

    def test_the_argument_may_be_passed_by_name(self):
        self.assertEqual(goods_of(names=["tea", "bun"]), ("bun", "tea"))

    def test_too_few_and_too_many(self):
        self.check_raises(BadCount, "count", 0, [])
        self.check_raises(BadCount, "count", 6, ["a", "b", "c", "d", "e", "f"])
        self.check_raises(BadCount, "count", 40, ["a"] * 40)

    def test_the_count_comes_before_the_names(self):
        self.check_raises(BadCount, "count", 6, ["1", "a", "a", "", "B", "c"])

    def test_a_bad_name(self):
        for name in ["", "1x", "Tea", "teapots", "tea\n", "t a", "-", "x_y"]:
            self.check_raises(BadName, "name", name, [name])
            self.check_raises(BadName, "name", name, ["x", name])

    def test_the_bad_name_is_the_very_item(self):
        name = "".join(["T", "ea"])
        with self.assertRaises(BadName) as told:
            goods_of(["x", name])
        self.assertIs(told.exception.name, name)

    def test_the_first_wrong_item_counts(self):
        self.check_raises(BadName, "name", "1", ["a", "1", "a"])
        self.check_raises(DuplicateName, "name", "a", ["a", "a", "1"])
        self.check_raises(BadName, "name", "2", ["2", "1"])
        self.check_raises(DuplicateName, "name", "b", ["a", "b", "b", "a"])
        self.check_raises(DuplicateName, "name", "a", ["c", "a", "a", "c", "B"])

    def test_a_bad_name_twice_is_a_bad_name(self):
        self.check_raises(BadName, "name", "X", ["X", "X"])
        self.check_raises(BadName, "name", "", ["a", "", ""])

    def test_a_name_twice_need_not_stand_side_by_side(self):
        self.check_raises(DuplicateName, "name", "e", ["e", "d", "c", "b", "e"])


class AllBundles(unittest.TestCase):
    def test_the_example(self):
        self.assertEqual(all_bundles(("bun", "tea")), [(), ("bun",), ("tea",), ("bun", "tea")])

    def test_all_bundles_of_one_to_five_goods_in_order(self):
        for many in range(1, 6):
            bundles = all_bundles(FIVE[:many])
            self.assertEqual(len(bundles), 2 ** many)
            self.assertEqual(bundles, plain_bundles(FIVE[:many]))

    def test_three_goods_written_out(self):
        self.assertEqual(all_bundles(("x", "y", "z")), [(), ("x",), ("y",), ("z",), ("x", "y"), ("x", "z"),
                                                        ("y", "z"), ("x", "y", "z")])

    def test_each_call_returns_a_new_list(self):
        goods = ("x", "y")
        first = all_bundles(goods)
        second = all_bundles(goods)
        self.assertIs(first.__class__, list)
        first.clear()
        self.assertEqual(second, plain_bundles(goods))
        self.assertEqual(all_bundles(goods), plain_bundles(goods))
        self.assertEqual(goods, ("x", "y"))

    def test_the_argument_may_be_passed_by_name(self):
        self.assertEqual(all_bundles(goods=("x",)), [(), ("x",)])


class IsBundle(unittest.TestCase):
    goods = ("x", "y", "z")

    def check(self, values, expected):
        for value in values:
            with self.subTest(value=value):
                self.assertIs(is_bundle(self.goods, value), expected)

    def test_every_bundle_of_one_to_five_goods(self):
        for many in range(1, 6):
            for bundle in plain_bundles(FIVE[:many]):
                self.assertIs(is_bundle(FIVE[:many], bundle), True)

    def test_every_short_tuple_of_goods_and_strangers(self):
        bundles = plain_bundles(self.goods)
        for many in range(5):
            for value in itertools.product(["x", "y", "z", "w", "", 1, None], repeat=many):
                self.assertIs(is_bundle(self.goods, value), value in bundles)

    def test_values_that_are_no_tuples(self):
        self.check([None, True, False, 0, 1, -5, 10**30, "", "x", "xy", "x y", "-"], False)
        self.check([[], ["x"], ["x", "y"], {}, {"x": 1}, {"x": "y", "y": []}, {1: ("x",)}], False)
        self.check([set(), {"x"}, frozenset(["x"]), b"x", object()], False)

    def test_another_order_or_a_good_twice(self):
        self.check([("y", "x"), ("x", "z", "y"), ("z", "y", "x"), ("x", "x"), ("x", "y", "y"), ("x", "y", "x")], False)

    def test_strange_goods(self):
        self.check([("w",), ("a", "x"), ("x", "y", "z", "zz"), ("X",), ("",), ("x ",), ("xy",)], False)

    def test_items_that_are_no_strings(self):
        self.check([(None,), (True,), (1,), ("x", 1), (1, "x"), ("x", None, "y"), (b"x",)], False)

    def test_nested_values(self):
        self.check([((),), (("x",),), ("x", ("y",)), (["x"],), ("x", []), ("x", {}), ({"x": "y"},), [("x",)]], False)
        self.check([((((("x",),),),),), [[[[[]]]]], ("x", [{"y": (["z"],)}]), {"x": {"y": {"z": {}}}}], False)

    def test_the_value_stays_as_it_was(self):
        value = ["x", ["y"]]
        is_bundle(self.goods, value)
        self.assertEqual(value, ["x", ["y"]])

    def test_the_arguments_may_be_passed_by_name(self):
        self.assertIs(is_bundle(value=("x",), goods=("x", "y")), True)
        self.assertIs(is_bundle(goods=("x", "y"), value=("z",)), False)


class UnionCommonRest(unittest.TestCase):
    def test_all_pairs_of_bundles_of_four_goods(self):
        goods = ("a", "b", "c", "d")
        for one in plain_bundles(goods):
            for other in plain_bundles(goods):
                self.assertEqual(union(one, other), tuple(g for g in goods if g in one or g in other))
                self.assertEqual(common(one, other), tuple(g for g in goods if g in one and g in other))
                self.assertEqual(rest(one, other), tuple(g for g in goods if g in one and g not in other))

    def test_equal_bundles(self):
        self.assertEqual(union(("x", "y"), ("x", "y")), ("x", "y"))
        self.assertEqual(common(("x", "y"), ("x", "y")), ("x", "y"))
        self.assertEqual(rest(("x", "y"), ("x", "y")), ())

    def test_disjoint_bundles(self):
        self.assertEqual(union(("b", "d"), ("a", "c")), ("a", "b", "c", "d"))
        self.assertEqual(common(("b", "d"), ("a", "c")), ())
        self.assertEqual(rest(("b", "d"), ("a", "c")), ("b", "d"))

    def test_empty_bundles(self):
        self.assertEqual([union((), ()), common((), ()), rest((), ())], [(), (), ()])
        self.assertEqual([union((), ("x",)), common((), ("x",)), rest((), ("x",))], [("x",), (), ()])
        self.assertEqual([union(("x",), ()), common(("x",), ()), rest(("x",), ())], [("x",), (), ("x",)])

    def test_longer_names(self):
        self.assertEqual(union(("bun", "tea"), ("jam", "tea")), ("bun", "jam", "tea"))
        self.assertEqual(common(("bun", "tea"), ("jam", "tea")), ("tea",))
        self.assertEqual(rest(("bun", "tea"), ("jam", "tea")), ("bun",))
        self.assertEqual(common(("tea",), ("t",)), ())

    def test_the_arguments_may_be_passed_by_name(self):
        self.assertEqual(union(other=("x",), one=("y",)), ("x", "y"))
        self.assertEqual(common(other=("x",), one=("x", "y")), ("x",))
        self.assertEqual(rest(other=("x",), one=("x", "y")), ("y",))

    def test_tuples_are_returned(self):
        for result in [union(("x",), ("y",)), common(("x",), ("x",)), rest(("x",), ())]:
            self.assertIs(result.__class__, tuple)


class Splits(unittest.TestCase):
    def test_the_example(self):
        self.assertEqual(list(splits(("bun", "tea")))[1], (("bun",), ("tea",)))

    def test_the_empty_bundle(self):
        self.assertEqual(list(splits(())), [((), ())])

    def test_two_goods_written_out(self):
        self.assertEqual(list(splits(("x", "y"))), [((), ("x", "y")), (("x",), ("y",)), (("y",), ("x",)),
                                                    (("x", "y"), ())])

    def test_the_parts_in_their_order_with_the_other_goods(self):
        for many in range(6):
            bundle = FIVE[:many]
            expected = [(part, tuple(good for good in bundle if good not in part)) for part in plain_bundles(bundle)]
            self.assertEqual(list(splits(bundle)), expected)

    def test_it_is_a_generator_that_yields_tuples(self):
        walk = splits(("x",))
        self.assertIs(iter(walk), walk)
        self.assertIs(next(walk).__class__, tuple)

    def test_a_walk_within_a_walk(self):
        bundle = ("x", "y", "z")
        alone = list(splits(bundle))
        seen = []
        for outer in splits(bundle):
            self.assertEqual([inner for inner in splits(bundle)], alone)
            seen.append(outer)
        self.assertEqual(seen, alone)

    def test_two_walks_side_by_side(self):
        for one, other in zip(splits(("x", "y")), splits(("x", "y"))):
            self.assertEqual(one, other)

    def test_begun_again_after_a_walk_that_was_broken_off(self):
        bundle = ("x", "y")
        for part, _ in splits(bundle):
            if part == ("x",):
                break
        self.assertEqual(next(splits(bundle)), ((), ("x", "y")))
        self.assertEqual(len(list(splits(bundle))), 4)

    def test_the_argument_may_be_passed_by_name(self):
        self.assertEqual(list(splits(bundle=("x",))), [((), ("x",)), (("x",), ())])


class Texts(unittest.TestCase):
    def check_refused(self, texts):
        for text in texts:
            with self.subTest(text=text):
                with self.assertRaises(BadText) as told:
                    read_bundle(text)
                self.assertIs(told.exception.__class__, BadText)
                self.assertIs(told.exception.text, text)

    def test_the_example(self):
        self.assertEqual([bundle_text(("bun", "tea")), bundle_text(())], ["bun tea", "-"])

    def test_texts_of_none_to_five_goods(self):
        texts = ["-", "a", "a b1", "a b1 c", "a b1 c d9", "a b1 c d9 e"]
        for many, text in enumerate(texts):
            self.assertEqual(bundle_text(FIVE[:many]), text)
            self.assertEqual(read_bundle(text), FIVE[:many])

    def test_there_and_back(self):
        for bundle in plain_bundles(FIVE):
            self.assertEqual(read_bundle(bundle_text(bundle)), bundle)
            self.assertIs(read_bundle(bundle_text(bundle)).__class__, tuple)

    def test_every_short_text_that_is_read_is_the_text_of_its_bundle(self):
        for many in range(5):
            for signs in itertools.product("ab1 -\n", repeat=many):
                text = "".join(signs)
                try:
                    bundle = read_bundle(text)
                except BadText as error:
                    self.assertEqual(error.text, text)
                    self.assertNotIn(text, ["-", "a", "b", "a b", "a b1", "a1 b"])
                else:
                    self.assertEqual(bundle_text(bundle), text)
                    self.assertEqual(bundle, goods_of(bundle) if bundle else ())

    def test_blanks_and_newlines(self):
        self.check_refused(["", " ", "  ", "a  b", " a", "a ", " a b", "a b ", "\n", "a\n", "\na", "a\nb", "a b\n"])
        self.check_refused([" -", "- ", "-\n", "\n-", "--"])

    def test_bad_names(self):
        self.check_refused(["A", "1", "1a", "teapots", "a B", "a teapots", "a,b", "a_b", "tea bun!", "()", "a \n"])

    def test_names_twice_or_in_another_order(self):
        self.check_refused(["a a", "a b b", "a b a", "b a", "tea bun", "a c b", "b1 a"])

    def test_six_names(self):
        self.assertEqual(read_bundle("a b c d e"), ("a", "b", "c", "d", "e"))
        self.check_refused(["a b c d e f", "a b c d e f g", "a a b c d e"])

    def test_a_hyphen_beside_a_name(self):
        self.check_refused(["- a", "a -", "a - b", "-a", "a-", "- -"])

    def test_the_arguments_may_be_passed_by_name(self):
        self.assertEqual(bundle_text(bundle=("x", "y")), "x y")
        self.assertEqual(read_bundle(text="x y"), ("x", "y"))


if __name__ == "__main__":
    unittest.main()
