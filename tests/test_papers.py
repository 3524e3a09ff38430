"""Points 8 to 11, 49, 51, 52 and 54: mixtures, verdicts, and papers that show which of the two a market has."""

from bundlekinds.clearing import (Mixture, Verdict, check_clearing, check_mixture, check_paper, decide,
                                  marginal_prices)
from bundlekinds.markets import Market
from bundlekinds.prices import Prices
from bundlekinds.tables import Table
from tests.families import apart_tables, great_tables
from tests.samples import FIVE, MILLION, Case, any_values, chance_of, plain_bundles, rising_table
from tests.sharings import (NAMES, best_sharings, clears_with, is_mixture_of, rough_market, smooth_market,
                            torn_market)

BOTH = Table(["x", "y"], [3, 3, 7])
TORN = {"ann": BOTH, "bob": Table.one_of({"x": 10, "y": 10})}
HALVES = {("ann", ("x", "y")): 1, ("ann", ()): 1, ("bob", ("x",)): 1, ("bob", ("y",)): 1}
CALM = {"ann": Table.one_of({"x": 5, "y": 4}), "bob": Table.plain({"x": 3, "y": 1})}


def torn_markets(chance):
    """Return markets for which `decide` tells a mixture."""
    markets = [Market(TORN)]
    for goods in range(2, 5):
        markets += [torn_market(chance, FIVE[:goods], most) for most in [4, 10, 50000] for _ in range(3)]
        markets += [rough_market(chance, FIVE[:goods], buyers, 9) for buyers in [2, 3] for _ in range(6)]
    return [market for market in markets if decide(market).kind == "mixture"]


class Mixtures(Case):
    def test_the_properties(self):
        weights = {("ann", ("x",)): 1, ("bob", ()): 0}
        for mixture in [Mixture(2, weights), Mixture(weights=weights, unit=2)]:
            self.assertEqual([mixture.unit, mixture.weights], [2, weights])
            self.assertIs(mixture.weights.__class__, dict)
            for name in ["unit", "weights"]:
                with self.assertRaises(AttributeError):
                    setattr(mixture, name, 1)

    def test_the_dict_is_copied_both_ways(self):
        weights = dict(HALVES)
        mixture = Mixture(2, weights)
        weights["ann", ()] = 5
        weights["zoe", ()] = 1
        self.assertEqual(mixture.weights, HALVES)
        told = mixture.weights
        told.clear()
        self.assertEqual(mixture.weights, HALVES)
        self.assertIs(check_mixture(Market(TORN), mixture), True)

    def test_a_mixture_is_not_equal_to_a_value_of_another_kind(self):
        for value in any_values() + [HALVES, (2, HALVES), BOTH]:
            self.assertFalse(Mixture(2, HALVES) == value)
            self.assertTrue(Mixture(2, HALVES) != value)


class CheckMixture(Case):
    def check_both(self, market, unit, weights):
        """Check that a mixture is accepted exactly if it is one of the market and is worth enough."""
        expected = is_mixture_of(market, unit, weights)
        mixture = Mixture(unit, weights)
        self.assertIs(check_mixture(market, mixture), expected)
        self.assertIs(check_paper(market, ("mixture", mixture)), expected)
        return expected

    def changes_of(self, market, weights):
        """Return the weights with a weight changed, or a pair less, more or replaced."""
        found = [{pair: weights[pair] * factor for pair in weights} for factor in [0, 2, 3]]
        found += [{**weights, ("zoe", ()): 0}, {**weights, ("zoe", ()): 1}, {**weights, ("ann", ("zoe",)): 0}]
        for pair in weights:
            rest = {other: weights[other] for other in weights if other != pair}
            found += [rest, {**weights, pair: weights[pair] + 1}, {**weights, pair: weights[pair] - 1},
                      {**weights, pair: -weights[pair]}, {**weights, pair: 0}]
            found.append({**rest, (pair[0], pair[1][::-1]): weights[pair]})
            found.append({**rest, (pair[0], pair[1] * 2): weights[pair]})
            found.append({**rest, ("zoe", pair[1]): weights[pair]})
            for bundle in plain_bundles(market.goods):
                found.append({**rest, (pair[0], bundle): rest.get((pair[0], bundle), 0) + weights[pair]})
            for buyer in market.buyers:
                found.append({**rest, (buyer, pair[1]): rest.get((buyer, pair[1]), 0) + weights[pair]})
        return found

    def test_the_examples(self):
        self.assertIs(check_mixture(Market(TORN), Mixture(2, HALVES)), True)
        self.assertIs(check_mixture(mixture=Mixture(2, HALVES), market=Market(TORN)), True)

    def test_right_mixtures_and_the_same_with_one_item_changed(self):
        chance = chance_of("mixtures")
        seen = []
        markets = torn_markets(chance)
        self.assertGreater(len(markets), 12)
        for market in markets[:14]:
            mixture = decide(market).paper[1]
            unit, weights = mixture.unit, mixture.weights
            self.assertIs(self.check_both(market, unit, weights), True)
            for other in self.changes_of(market, weights):
                seen.append(self.check_both(market, unit, other))
            for other in [0, -unit, unit - 1, unit + 1, 2 * unit]:
                seen.append(self.check_both(market, other, weights))
            for factor in [2, 3, 10 ** 30]:
                more = {pair: weights[pair] * factor for pair in weights}
                self.assertIs(self.check_both(market, unit * factor, more), True)
        self.assertEqual(set(seen), {True, False})

    def test_units_and_weights_below_1(self):
        market = Market(TORN)
        for unit, weights in [(0, {}), (0, {("ann", ()): 0}), (-2, {pair: -HALVES[pair] for pair in HALVES}), (1, {}),
                              (0, {pair: 0 for pair in HALVES})]:
            self.assertIs(self.check_both(market, unit, weights), False)
        # Nothing is wrong with these but the signs.
        for unit, weights in [(-2, {("ann", ("x", "y")): -2, ("bob", ()): -2}),
                              (1, {("ann", ("x",)): -1, ("ann", ("y",)): 1, ("ann", ()): 1, ("bob", ("x",)): 2,
                                   ("bob", ()): -1}),
                              (2, {("ann", ("x", "y")): 2, ("bob", ("x",)): 1, ("bob", ("y",)): 1,
                                   ("bob", ("x", "y")): -1, ("bob", ()): 1})]:
            self.assertIs(self.check_both(market, unit, weights), False)

    def test_weights_of_0_count_for_nothing(self):
        more = {**HALVES, ("bob", ("x", "y")): 0, ("bob", ()): 0, ("ann", ("y",)): 0}
        self.assertIs(self.check_both(Market(TORN), 2, more), True)

    def test_a_mixture_must_be_worth_more_than_a_best_sharing(self):
        calm = Market(CALM)
        sharing = calm.best()[1]
        weights = {(buyer, sharing[buyer]): 1 for buyer in sharing}
        self.assertIs(self.check_both(calm, 1, weights), False)
        greater = Market({"ann": BOTH, "bob": Table.one_of({"x": 11, "y": 11})})
        self.assertIs(self.check_both(greater, 2, HALVES), True)
        equal = Market({"ann": Table(["x", "y"], [3, 3, 6]), "bob": Table.one_of({"x": 10, "y": 10})})
        self.assertIs(self.check_both(equal, 2, HALVES), False)

    def test_each_good_is_given_at_most_once(self):
        weights = {("ann", ("x", "y")): 2, ("bob", ("x",)): 1, ("bob", ("y",)): 1}
        self.assertIs(self.check_both(Market(TORN), 2, weights), False)
        weights = {("ann", ("x", "y")): 1, ("ann", ("x",)): 1, ("bob", ("x",)): 1, ("bob", ("y",)): 1}
        self.assertIs(self.check_both(Market(TORN), 2, weights), False)

    def test_a_mixture_of_another_market(self):
        market = Market(TORN)
        for other in [Market({"ann": BOTH}), Market({"ann": BOTH, "bo": TORN["bob"]}),
                      market.with_buyer("zoe", BOTH), Market({"ann": BOTH, "bob": BOTH}),
                      Market({"ann": Table.plain({"x": 3, "z": 4}), "bob": Table.one_of({"x": 9, "z": 9})})]:
            self.assertIs(self.check_both(other, 2, HALVES), False)


class Verdicts(Case):
    sharing = {"ann": ("y",), "bob": ("x",)}
    prices = Prices({"x": 3, "y": 2})

    def test_the_properties(self):
        mixture = Mixture(2, HALVES)
        for verdict in [Verdict(("mixture", mixture)), Verdict(paper=("mixture", mixture))]:
            self.assertEqual(verdict.kind, "mixture")
            self.assertEqual([verdict.paper[0], len(verdict.paper), verdict.paper.__class__], ["mixture", 2, tuple])
            self.assertEqual([verdict.paper[1].unit, verdict.paper[1].weights], [2, HALVES])
        verdict = Verdict(("clears", self.prices, self.sharing))
        self.assertEqual([verdict.kind, verdict.paper], ["clears", ("clears", self.prices, self.sharing)])
        for name in ["kind", "paper"]:
            with self.assertRaises(AttributeError):
                setattr(verdict, name, ())

    def test_the_sharing_is_copied_both_ways(self):
        sharing = dict(self.sharing)
        verdict = Verdict(("clears", self.prices, sharing))
        sharing["ann"] = ()
        sharing["zoe"] = ()
        self.assertEqual(verdict.paper[2], self.sharing)
        told = verdict.paper[2]
        told.clear()
        self.assertEqual(verdict.paper[2], self.sharing)
        self.assertIsNot(verdict.paper[2], verdict.paper[2])

    def test_lists_and_dicts_in_a_wrong_sharing_are_copied_too(self):
        for wrong in [[["x"], {"y": ["z"]}], {"ann": [["x"]], "bob": {"x": {"y": []}}}, ({"ann": ["x"]},)]:
            text = repr(wrong)
            verdict = Verdict(("clears", self.prices, wrong))
            for item in [wrong, verdict.paper[2]]:
                inner = item[0] if isinstance(item, (list, tuple)) else item["ann"]
                inner.clear()
                self.assertEqual(repr(verdict.paper[2]), text)

    def test_a_verdict_is_not_equal_to_a_value_of_another_kind(self):
        verdict = Verdict(("clears", self.prices, self.sharing))
        for value in any_values() + ["clears", verdict.paper, self.prices]:
            self.assertFalse(verdict == value)
            self.assertTrue(verdict != value)

    def test_check_paper(self):
        calm = Market(CALM)
        right = ("clears", self.prices, self.sharing)
        self.assertIs(check_paper(calm, right), True)
        self.assertIs(check_paper(paper=right, market=calm), True)
        self.assertIs(check_paper(Market(TORN), ("mixture", Mixture(2, HALVES))), True)
        for wrong in [("clears", self.prices.raised("x", 1), self.sharing),
                      ("clears", Prices({"x": 3, "y": 2}, unit=2), self.sharing),
                      ("clears", Prices({"x": 3}), self.sharing),
                      ("clears", self.prices, {"ann": ("x",), "bob": ("y",)}), ("clears", self.prices, {}),
                      ("mixture", Mixture(2, HALVES))]:
            self.assertIs(check_paper(calm, wrong), False)
        for value in any_values():
            self.assertIs(check_paper(calm, ("clears", self.prices, value)), False)


class Decide(Case):
    def check_verdict(self, market):
        """Check the verdict of a market, its paper by this program and in another way; return the kind."""
        verdict = decide(market)
        self.assertIs(verdict.__class__, Verdict)
        kind, *items = verdict.paper
        self.assertEqual([verdict.kind, len(items)], [kind, {"clears": 2, "mixture": 1}[kind]])
        self.assertIs(check_paper(market, verdict.paper), True)
        if kind == "clears":
            self.assertIs(check_clearing(market, *items), True)
            self.assertIs(clears_with(market, *items), True)
        else:
            self.assertIs(check_mixture(market, *items), True)
            if (len(market) + 1) ** len(market.goods) < 1500:
                self.assertIs(is_mixture_of(market, items[0].unit, items[0].weights), True)
        return kind

    def same(self, one, other):
        """Check that two verdicts tell the same."""
        self.assertEqual(one.kind, other.kind)
        if one.kind == "clears":
            self.assertEqual(one.paper, other.paper)
            self.assertEqual([one.paper[1].amounts(), one.paper[1].unit],
                             [other.paper[1].amounts(), other.paper[1].unit])
        else:
            self.assertEqual([one.paper[1].unit, one.paper[1].weights], [other.paper[1].unit, other.paper[1].weights])

    def test_the_examples(self):
        self.assertEqual([self.check_verdict(Market(TORN)), self.check_verdict(Market(CALM))], ["mixture", "clears"])
        self.assertEqual(decide(market=Market(CALM)).kind, "clears")

    def test_markets_of_all_sizes(self):
        chance = chance_of("decide")
        kinds = []
        for goods in range(1, 6):
            for buyers in range(1, 7):
                for most in [1, 9, 200000]:
                    kinds.append(self.check_verdict(rough_market(chance, FIVE[:goods], buyers, most)))
                kinds.append(self.check_verdict(torn_market(chance, FIVE[:goods], 10)))
        self.assertGreater(kinds.count("mixture"), 12)
        self.assertGreater(kinds.count("clears"), 40)

    def test_markets_of_substitutes_are_cleared(self):
        chance = chance_of("substitutes")
        for goods in range(1, 6):
            for buyers in range(1, 7):
                for most in [0, 1, 9, 20000]:
                    market = smooth_market(chance, FIVE[:goods], buyers, most)
                    self.assertEqual(self.check_verdict(market), "clears")
                    self.assertIs(check_paper(market, ("clears", marginal_prices(market), market.best()[1])), True)

    def test_the_greatest_worths_and_worths_far_apart(self):
        chance = chance_of("apart")
        kinds = []
        for table in apart_tables(chance)[::5] + great_tables():
            others = {name: rising_table(chance, table.goods, MILLION // 4) for name in NAMES[:3]}
            for buyers in range(3):
                kinds.append(self.check_verdict(Market({"main": table, **dict(list(others.items())[:buyers])})))
        self.assertEqual(set(kinds), {"clears", "mixture"})

    def test_a_market_of_one_buyer_is_cleared(self):
        chance = chance_of("one")
        for goods in range(1, 6):
            for most in [0, 1, 9, 200000]:
                self.assertEqual(self.check_verdict(Market({"x": rising_table(chance, FIVE[:goods], most)})), "clears")

    def test_never_both(self):
        chance = chance_of("never")
        for market in torn_markets(chance):
            best = best_sharings(market)[0]
            for prices in [marginal_prices(market), Prices({good: 0 for good in market.goods}),
                           Prices({good: chance.randint(0, 9) for good in market.goods}, unit=2)]:
                self.assertIs(check_clearing(market, prices, best), False)

    def test_the_same_again_and_for_the_buyers_in_another_order(self):
        chance = chance_of("again")
        markets = [rough_market(chance, FIVE[:4], 4, 3) for _ in range(8)] + [Market(TORN), Market(CALM)]
        told = [decide(market) for market in markets]
        for market, verdict in reversed(list(zip(markets, told))):
            turned = Market({buyer: Table.read(str(market[buyer])) for buyer in reversed(market.buyers)})
            self.same(decide(turned), verdict)
            self.same(decide(market), verdict)
            self.assertEqual(turned, market)
        self.assertEqual({verdict.kind for verdict in told}, {"clears", "mixture"})

    def test_what_is_told_may_change(self):
        market = Market(CALM)
        verdict = decide(market)
        verdict.paper[2].clear()
        self.assertIs(check_paper(market, verdict.paper), True)
        self.assertIs(check_paper(market, decide(market).paper), True)
