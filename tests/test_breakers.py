"""Points 7 to 11 and 55 to 58: buyers who want one good, and with whom a market has no clearing prices."""

from bundlekinds.breakers import Break, breakers, broken_market, check_break, wants_one
from bundlekinds.clearing import Mixture, check_mixture, decide
from bundlekinds.errors import (BadCount, BadFactor, BadName, BadWorth, DuplicateName, IsSubstitutes, UnlikeGoods)
from bundlekinds.kinds import is_substitutes
from bundlekinds.markets import Market
from bundlekinds.tables import Table
from tests.families import (apart_tables, great_tables, pair_tables, rough_tables, shaken_tables, small_tables,
                            smooth_tables, triple_tables)
from tests.samples import (FIVE, MILLION, SMALL_NUMBERS, Case, any_values, capped_table, chance_of, failures_of,
                           plain_bundles, rising_table, substitutes_tables, worths_of)
from tests.sharings import all_sharings, is_mixture_of

BOTH = Table(["x", "y"], [3, 3, 7])
EITHER = Table.one_of({"x": 10, "y": 10})
HALVES = {("main", ("x", "y")): 1, ("main", ()): 1, ("bob", ("x",)): 1, ("bob", ("y",)): 1}
RIGHT = Break(1, {"bob": EITHER}, Mixture(2, HALVES))


def is_one_wanted(table):
    """Tell whether each bundle is worth as much as the best of its goods alone, from the worths."""
    worths = worths_of(table)
    return all(worths[bundle] == max(worths[good,] for good in bundle) for bundle in worths if bundle)


class WantsOne(Case):
    def test_the_example(self):
        self.assertIs(wants_one(BOTH), False)
        self.assertIs(wants_one(table=EITHER), True)

    def test_the_greatest_amounts(self):
        chance = chance_of("one")
        for many in range(1, 6):
            for most in [0, 1, 9, MILLION]:
                for _ in range(5):
                    table = Table.one_of({good: chance.randint(0, most) for good in FIVE[:many]})
                    self.assertIs(wants_one(table), True)
                    self.assertIs(is_substitutes(table), True)

    def test_one_number_moved(self):
        chance = chance_of("moved")
        seen = []
        for many in range(1, 6):
            numbers = Table.one_of({good: chance.randint(1, 9) for good in FIVE[:many]}).numbers
            for at in range(len(numbers)):
                for by in [-1, 1]:
                    moved = list(numbers)
                    moved[at] += by
                    bundles = plain_bundles(FIVE[:many])[1:]
                    worths = dict(zip(bundles, moved))
                    if all(worths[one] <= worths[other] for one in bundles for other in bundles
                           if set(one) <= set(other)):
                        table = Table(FIVE[:many], moved)
                        seen.append(is_one_wanted(table))
                        self.assertIs(wants_one(table), seen[-1])
        self.assertEqual(set(seen), {True, False})

    def test_others(self):
        chance = chance_of("others")
        for numbers in SMALL_NUMBERS:
            table = Table(["x", "y", "z"], numbers)
            self.assertIs(wants_one(table), is_one_wanted(table))
        for many in range(1, 6):
            for table in substitutes_tables(chance, FIVE[:many], 9) + [rising_table(chance, FIVE[:many], 2)]:
                self.assertIs(wants_one(table), is_one_wanted(table))


class Breaks(Case):
    def test_the_properties(self):
        mixture = Mixture(2, HALVES)
        for told in [Break(3, {"bob": EITHER}, mixture), Break(mixture=mixture, others={"bob": EITHER}, factor=3)]:
            self.assertEqual([told.factor, told.others], [3, {"bob": EITHER}])
            self.assertEqual([told.mixture.unit, told.mixture.weights], [2, HALVES])
            for name in ["factor", "others", "mixture"]:
                with self.assertRaises(AttributeError):
                    setattr(told, name, 1)

    def test_the_dict_is_copied_both_ways(self):
        others = {"bob": EITHER}
        told = Break(1, others, Mixture(2, HALVES))
        others["zoe"] = BOTH
        others["bob"] = BOTH
        self.assertEqual(told.others, {"bob": EITHER})
        told.others.clear()
        self.assertEqual(told.others, {"bob": EITHER})
        self.assertIsNot(told.others, told.others)
        self.assertIs(check_break(BOTH, told), True)

    def test_a_break_is_not_equal_to_a_value_of_another_kind(self):
        for value in any_values() + [BOTH, {"bob": EITHER}, (1, {"bob": EITHER})]:
            self.assertFalse(RIGHT == value)
            self.assertTrue(RIGHT != value)


class BrokenMarket(Case):
    def test_the_market(self):
        told = Break(3, {"bob": EITHER, "zoe": BOTH}, Mixture(1, {}))
        for market in [broken_market(BOTH, told), broken_market(told=told, table=BOTH)]:
            self.assertEqual(market, Market({"bob": EITHER, "main": Table(["x", "y"], [9, 9, 21]), "zoe": BOTH}))
        self.assertEqual(broken_market(BOTH, Break(1, {}, Mixture(1, {}))), Market({"main": BOTH}))
        self.assertEqual(told.others, {"bob": EITHER, "zoe": BOTH})

    def test_the_errors_in_their_order(self):
        great = Table.plain({"x": MILLION, "y": 0})
        other = Table.plain({"z": 1})
        full = {f"b{at}": EITHER for at in range(6)}
        wrong = [(great, 0, {**full, "main": EITHER}, DuplicateName, {"name": "main"}),
                 (BOTH, 1, {"main": other}, DuplicateName, {"name": "main"}),
                 (great, 0, full, BadFactor, {"value": 0}), (BOTH, 1001, {"X": other}, BadFactor, {"value": 1001}),
                 (great, 2, full, BadWorth, {"worth": 2 * MILLION}),
                 (great, 1000, {"X": other}, BadWorth, {"worth": 1000 * MILLION}),
                 (BOTH, 1, {**full, "X": other}, BadCount, {"count": 8}), (BOTH, 1, full, BadCount, {"count": 7}),
                 (BOTH, 2, {"X": other, "": other}, BadName, {"name": ""}),
                 (BOTH, 2, {"bob": other}, UnlikeGoods, {"names": ("x", "y")}),
                 (BOTH, 2, {"zoe": other}, UnlikeGoods, {"names": ("z",)})]
        for table, factor, others, kind, told in wrong:
            self.check_raises(kind, told, broken_market, table, Break(factor, others, Mixture(2, HALVES)))
            self.assertIs(check_break(table, Break(factor, others, Mixture(2, HALVES))), False)


class CheckBreak(Case):
    def check_both(self, table, told):
        """Check that a break is accepted exactly if it is one."""
        tables = {**told.others, "main": table}
        expected = ("main" not in told.others and all(name.islower() for name in told.others)
                    and 1 <= len(tables) <= 6 and 1 <= told.factor <= 1000
                    and table.numbers[-1] * told.factor <= MILLION
                    and all(other.goods == table.goods for other in tables.values())
                    and all(is_one_wanted(other) for other in told.others.values()))
        if expected:
            market = Market({**told.others, "main": table.times(told.factor)})
            expected = is_mixture_of(market, told.mixture.unit, told.mixture.weights)
        self.assertIs(check_break(table, told), expected)
        return expected

    def changes_of(self, table, told):
        """Return the break with one item changed, in many ways."""
        factor, others, mixture = told.factor, told.others, told.mixture
        unit, weights = mixture.unit, mixture.weights
        found = [Break(other, others, mixture) for other in [0, -1, 1, 2, 3, 1000, 1001]]
        found += [Break(factor, {**others, "main": table}, mixture), Break(factor, {}, mixture),
                  Break(factor, {**others, "zoe": Table.one_of(dict.fromkeys(table.goods, 0))}, mixture),
                  Break(factor, {**others, "zoe": table}, mixture),
                  Break(factor, {**others, "zoe": Table.plain({"good": 1})}, mixture),
                  Break(factor, {**others, "Zoe": EITHER}, mixture)]
        for name in others:
            rest = {other: others[other] for other in others if other != name}
            found += [Break(factor, rest, mixture), Break(factor, {**rest, "main": others[name]}, mixture),
                      Break(factor, {**rest, "zoe": others[name]}, mixture),
                      Break(factor, {**rest, name: others[name].times(2)}, mixture),
                      Break(factor, {**rest, name: others[name].plus(dict.fromkeys(table.goods, 1))}, mixture)]
            more = others[name].numbers[:-1] + (others[name].numbers[-1] + 1,)
            found.append(Break(factor, {**rest, name: Table(table.goods, more)}, mixture))
        for pair in weights:
            found += [Break(factor, others, Mixture(unit, {**weights, pair: weights[pair] + by})) for by in [-1, 1, 2]]
            less = {other: weights[other] for other in weights if other != pair}
            found.append(Break(factor, others, Mixture(unit, less)))
        return found + [Break(factor, others, Mixture(unit + by, weights)) for by in [-2, -1, 1, 2]]

    def test_a_break_with_one_item_changed(self):
        chance = chance_of("changed")
        seen = []
        rough = [rising_table(chance, FIVE[:many], 5) for many in [3, 3, 3, 4]]
        tables = [BOTH, capped_table(FIVE[:3], [2, 2, 3], 4), capped_table(FIVE[:4], [2, 2, 3, 3], 4),
                  Table(FIVE[:4], [1] * 14 + [4])]
        for table in tables + [table for table in rough if failures_of(table)]:
            told = breakers(table)
            self.assertIs(self.check_both(table, told), True)
            seen += [self.check_both(table, other) for other in self.changes_of(table, told)]
        self.assertEqual(set(seen), {True, False})

    def test_a_break_by_hand(self):
        self.assertIs(self.check_both(BOTH, RIGHT), True)
        self.assertIs(check_break(told=RIGHT, table=BOTH), True)
        self.assertIs(check_break(Table(["x", "y"], [3, 3, 6]), RIGHT), False)
        self.assertIs(check_break(Table(["x", "z"], [3, 3, 7]), RIGHT), False)
        both = Break(1, {"bob": EITHER, "zoe": BOTH}, Mixture(2, {**HALVES, ("zoe", ()): 2}))
        self.assertIs(check_mixture(broken_market(BOTH, both), both.mixture), True)
        # The table of zoe wants two goods.
        self.assertIs(self.check_both(BOTH, both), False)

    def test_no_break_passes_for_substitutes(self):
        chance = chance_of("substitutes")
        for many in range(1, 4):
            for table in substitutes_tables(chance, FIVE[:many], 4):
                others = {name: Table.one_of({good: chance.randint(0, 9) for good in table.goods})
                          for name in ["bob", "zoe"]}
                market = Market({**others, "main": table})
                sharings = all_sharings(market)
                for _ in range(30):
                    unit = chance.randint(1, 3)
                    weights = {}
                    for sharing in chance.choices(sharings, k=unit):
                        for pair in sharing.items():
                            weights[pair] = weights.get(pair, 0) + 1
                    self.assertIs(self.check_both(table, Break(1, others, Mixture(unit, weights))), False)
        self.assertIs(check_break(Table.plain({"x": 3, "y": 3}), RIGHT), False)


class Breakers(Case):
    def check_breakers(self, table):
        """Check the break of a table if there must be one, and the error if there is none; return the failures."""
        found = failures_of(table)
        if not found:
            self.check_raises(IsSubstitutes, {}, breakers, table)
            return found
        text = str(table)
        told = breakers(table)
        self.assertIs(told.__class__, Break)
        self.assertIn(told.factor, [1, 2])
        others = told.others
        many = sorted(len([good for good in table.goods if others[name]((good,)) > 0]) for name in others)
        self.assertEqual(many, [1] * (len(others) - 1) + [2])
        self.assertTrue(all(is_one_wanted(others[name]) for name in others))
        market = broken_market(table, told)
        self.assertIs(check_break(table, told), True)
        self.assertIs(check_mixture(market, told.mixture), True)
        if len(table.goods) < 5:
            self.assertIs(is_mixture_of(market, told.mixture.unit, told.mixture.weights), True)
        self.assertEqual(decide(market).kind, "mixture")
        again = breakers(Table(list(table.goods), list(table.numbers)))
        self.assertEqual([again.factor, again.others, again.mixture.unit, again.mixture.weights],
                         [told.factor, others, told.mixture.unit, told.mixture.weights])
        self.assertEqual(str(table), text)
        return found

    def check_kinds(self, tables, expected):
        """Check all breaks; the tables have failures of these kinds."""
        kinds = {tuple(sorted({failure[0] for failure in self.check_breakers(table)})) for table in tables}
        self.assertLessEqual(expected, kinds)

    def test_the_examples(self):
        told = breakers(BOTH)
        self.assertEqual([check_break(BOTH, told), decide(broken_market(BOTH, told)).kind], [True, "mixture"])
        self.check_raises(IsSubstitutes, {}, breakers, Table.plain({"x": 3, "y": 3}))
        self.check_raises(IsSubstitutes, {}, breakers, table=EITHER)

    def test_every_small_table_of_two_and_three_goods(self):
        self.check_kinds(small_tables()[::2], {(), ("pair",), ("triple",), ("pair", "triple")})

    def test_failures_of_pairs_alone(self):
        self.check_kinds([table for table in pair_tables(chance_of("pairs"), 20000) if table.numbers[-1] <= 100000],
                         {("pair",)})

    def test_failures_of_triples_alone(self):
        self.check_kinds(triple_tables(chance_of("triples"), 10000), {("triple",)})

    def test_failures_of_both(self):
        tables = rough_tables(chance_of("both"), 20000)
        self.check_kinds([table for table in tables if table.numbers[-1] <= 100000], {("pair", "triple")})

    def test_worths_far_apart_from_good_to_good(self):
        self.check_kinds(apart_tables(chance_of("apart"), (1, 10, 300, 3000, 90000)), {("triple",)})

    def test_the_greatest_worths(self):
        self.check_kinds(great_tables(100000), {("pair",), ("triple",)})

    def test_failures_over_bundles_that_are_not_empty(self):
        for _, table in shaken_tables(chance_of("shaken"))[::3]:
            self.check_breakers(table)

    def test_goods_with_any_names(self):
        for names in [("main", "only0", "only1"), ("either", "main", "only2"), ("abcdef", "b", "c")]:
            self.check_kinds([Table(names, [2, 2, 3, 4, 4, 4, 4]), Table(names, [0, 0, 0, 0, 0, 0, 9])],
                             {("pair",), ("triple",)})

    def test_no_breakers_for_substitutes(self):
        for table in smooth_tables(chance_of("none"), (0, 1, 7, 3000)):
            self.check_raises(IsSubstitutes, {}, breakers, table)
