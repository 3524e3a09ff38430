"""Points 6 to 8, 10, 11 and 42 to 44: sharings, their worths, the best of them, and joint tables."""

from bundlekinds.errors import BadBundle, BadSharing, BadWorth
from bundlekinds.kinds import is_substitutes
from bundlekinds.markets import Market
from bundlekinds.tables import Table
from tests.samples import FIVE, MILLION, Case, any_values, chance_of, failures_of, plain_bundles
from tests.sharings import (NAMES, all_sharings, given_in, is_sharing_of, rough_market, smooth_market, torn_market,
                            worth_in, worths_within)

ANN = Table(["x", "y"], [3, 3, 7])
BOB = Table.one_of({"x": 10, "y": 9})


def both():
    return Market({"ann": ANN, "bob": BOB})


def wrong_sharings():
    """Return values that are no sharings of the goods x and y among ann and bob."""
    found = any_values()
    for bundle in any_values()[:-1] + [("y", "x"), ("x", "x"), ("z",), ("x", "y", "z"), ("y",)]:
        found.append({"ann": ("y",), "bob": bundle})
        found.append({"bob": ("y",), "ann": bundle})
    for key in [None, True, 0, 7, "", "Ann", "zoe", "x", (), ("ann",), ("ann", "bob"), (1, ("x",))]:
        found += [{"ann": (), key: ()}, {"ann": ("x",), "bob": ("y",), key: ()}, {key: ("x",)}]
    found += [{"ann": ("x", "y"), "bob": ("x",)}, {"ann": ("x", "y"), "bob": ("x", "y")}, {"ann": ("x",)},
              {"bob": ("x",)}, [("ann", ("x",)), ("bob", ())], ("ann", "bob"), ["ann", "bob"]]
    return found


class Sharings(Case):
    def test_every_sharing_of_small_markets(self):
        chance = chance_of("sharings")
        for goods, buyers in [(1, 1), (1, 6), (2, 3), (3, 2), (4, 2), (5, 2), (3, 4)]:
            market = rough_market(chance, FIVE[:goods], buyers, 9)
            for sharing in all_sharings(market):
                self.assertIs(market.is_sharing(sharing), True)
                self.assertEqual(market.worth_of(sharing), worth_in(market, sharing))
                turned = dict(reversed(sharing.items()))
                self.assertIs(market.is_sharing(turned), True)
                self.assertEqual(market.worth_of(turned), worth_in(market, sharing))

    def test_every_dict_of_bundles(self):
        market = both()
        bundles = plain_bundles(("x", "y"))
        seen = []
        for one in bundles:
            for other in bundles:
                value = {"ann": one, "bob": other}
                seen.append(market.is_sharing(value))
                self.assertIs(seen[-1], is_sharing_of(market, value))
        self.assertEqual(seen.count(True), 9)

    def test_values_that_are_no_sharings(self):
        market = both()
        for value in wrong_sharings():
            self.assertIs(market.is_sharing(value), False)
            self.check_raises(BadSharing, {"sharing": value}, market.worth_of, value)
            self.check_keeps(BadSharing, "sharing", value, market.worth_of, value)

    def test_a_market_of_one_buyer(self):
        market = Market({"ann": ANN})
        for value in any_values() + [{"bob": ()}, {"ann": ["x"]}, {"ann": ("x",), "bob": ()}, {"ann": ("z",)}]:
            self.assertIs(market.is_sharing(value), False)
        self.assertIs(market.is_sharing({"ann": ("x", "y")}), True)

    def test_the_arguments_may_be_passed_by_name(self):
        market = both()
        sharing = {"bob": ("x",), "ann": ("y",)}
        self.assertEqual([market.is_sharing(value=sharing), market.worth_of(sharing=sharing)], [True, 13])
        self.assertEqual(sharing, {"bob": ("x",), "ann": ("y",)})
        self.assertEqual(market.best(bundle=("x",))[0], 10)


class Best(Case):
    def check_best(self, market):
        """Check the best sharings within every bundle, and the joint table, against all sharings."""
        worths = worths_within(market)
        for bundle in plain_bundles(market.goods):
            found = market.best(bundle)
            self.assertIs(found.__class__, tuple)
            worth, sharing = found
            self.assertEqual(worth, worths[bundle])
            self.assertTrue(is_sharing_of(market, sharing))
            self.assertIs(market.is_sharing(sharing), True)
            self.assertLessEqual(set(given_in(sharing)), set(bundle))
            self.assertEqual([worth_in(market, sharing), market.worth_of(sharing)], [worth, worth])
        self.assertEqual(market.best(), market.best(market.goods))
        self.assertEqual(market.best(None), market.best())
        self.assertEqual(market.joint(), Table(market.goods, [worths[bundle] for bundle in worths][1:]))

    def test_the_examples(self):
        market = both()
        self.assertEqual([market.best(), market.joint().numbers, market.worth_of({"ann": ("x",), "bob": ()})],
                         [(13, {"ann": ("y",), "bob": ("x",)}), (10, 9, 13), 3])

    def test_markets_of_all_kinds(self):
        chance = chance_of("best")
        for goods in range(1, 6):
            for buyers in range(1, 7):
                if (buyers + 1) ** goods < 1500:
                    for most in [1, 9, 30000]:
                        self.check_best(rough_market(chance, FIVE[:goods], buyers, most))
                        self.check_best(smooth_market(chance, FIVE[:goods], buyers, most // 3 + 1))
            self.check_best(torn_market(chance, FIVE[:goods], 10))

    def test_the_greatest_market(self):
        chance = chance_of("greatest")
        market = rough_market(chance, FIVE, 6, 30000)
        best = max(worth_in(market, sharing) for sharing in all_sharings(market)[::7])
        worth, sharing = market.best()
        self.assertGreaterEqual(worth, best)
        self.assertEqual(worth_in(market, sharing), worth)

    def test_worths_of_all_sizes(self):
        market = Market({name: Table(["x", "y"], [MILLION, MILLION - at, MILLION]) for at, name in enumerate(NAMES)})
        self.assertEqual([market.best()[0], market.best(("y",)), market.best(())[0]],
                         [2 * MILLION, (MILLION, {**dict.fromkeys(market.buyers, ()), "ann": ("y",)}), 0])

    def test_nothing_to_share(self):
        for market in [both(), Market({"ann": ANN})]:
            self.assertEqual(market.best(()), (0, dict.fromkeys(market.buyers, ())))
        self.assertEqual(Market({"ann": Table(["x"], [0])}).best()[0], 0)

    def test_values_that_are_no_bundles(self):
        market = both()
        for value in any_values()[1:-1] + [("y", "x"), ("x", "x"), ("z",), ("x", "y", "z")]:
            self.check_raises(BadBundle, {"value": value}, market.best, value)
            self.check_raises(BadBundle, {"value": value}, market.best, bundle=value)
        value = ["x"]
        self.check_keeps(BadBundle, "value", value, market.best, value)

    def test_what_is_returned_may_change(self):
        market = both()
        _, sharing = market.best()
        sharing["ann"] = ("x",)
        del sharing["bob"]
        self.assertEqual(market.best(), (13, {"ann": ("y",), "bob": ("x",)}))

    def test_always_the_same(self):
        chance = chance_of("same")
        for _ in range(10):
            market = rough_market(chance, FIVE[:4], 4, 2)
            turned = Market({buyer: Table.read(str(market[buyer])) for buyer in reversed(market.buyers)})
            for bundle in plain_bundles(market.goods):
                self.assertEqual(market.best(bundle), turned.best(bundle))
                self.assertEqual(market.best(bundle), market.best(bundle))


class Joint(Case):
    def test_a_market_of_one_buyer(self):
        self.assertEqual(Market({"ann": ANN}).joint(), ANN)

    def test_the_first_worth_that_is_too_great(self):
        half = Table(["x", "y"], [500001, 500000, MILLION])
        other = Table(["x", "y"], [500000, 500000, 500000])
        self.assertEqual(Market({"a": other, "b": other}).joint().numbers, (500000, 500000, MILLION))
        self.check_raises(BadWorth, {"worth": MILLION + 1}, Market({"a": half, "b": other}).joint)
        self.check_raises(BadWorth, {"worth": MILLION + 1}, Market({"a": half, "b": half}).joint)
        great = Table(["x", "y", "z"], [MILLION] * 7)
        self.check_raises(BadWorth, {"worth": 2 * MILLION}, Market({"a": great, "b": great, "c": great}).joint)
        mixed = Table(["x", "y", "z"], [MILLION, 5, 7, MILLION, MILLION, 7, MILLION])
        self.check_raises(BadWorth, {"worth": MILLION + 5}, Market({"a": mixed, "b": mixed}).joint)

    def test_the_joint_table_of_substitutes_is_one_of_substitutes(self):
        chance = chance_of("joint")
        for goods in range(1, 6):
            for buyers in range(1, 7):
                for most in [1, 5, 20000]:
                    joint = smooth_market(chance, FIVE[:goods], buyers, most).joint()
                    self.assertEqual(failures_of(joint), [])
                    self.assertIs(is_substitutes(joint), True)

    def test_each_call_returns_an_equal_table(self):
        market = both()
        self.assertEqual(market.joint(), market.joint())
        self.assertIs(market.joint().__class__, Table)
