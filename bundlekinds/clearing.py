"""Prices that clear a market, or a mixture that shows that there are none."""

from math import lcm

from bundlekinds.bundles import is_bundle, rest
from bundlekinds.errors import UnlikeGoods
from bundlekinds.integers import is_whole
from bundlekinds.prices import Prices, is_wanted
from bundlekinds.programs import best_mix
from bundlekinds.tables import filled_bundles

CLEARS = "clears"
MIXTURE = "mixture"


class Mixture:
    """A unit, and weights for pairs of a buyer and a bundle. It never changes."""

    def __init__(self, unit, weights):
        self._unit = unit
        self._weights = {pair: weights[pair] for pair in weights}

    @property
    def unit(self):
        """What the weights of each buyer add up to."""
        return self._unit

    @property
    def weights(self):
        """The dict from the pairs to their weights."""
        return {pair: self._weights[pair] for pair in self._weights}


class Verdict:
    """A paper that shows whether there are prices that clear a market. It never changes."""

    def __init__(self, paper):
        self._paper = copied(paper)

    @property
    def kind(self):
        """The first item of the paper: "clears" or "mixture"."""
        return self._paper[0]

    @property
    def paper(self):
        """The paper."""
        return copied(self._paper)


def copied(value):
    """Return the value, but with a copy in the place of each tuple, list and dict in it."""
    if isinstance(value, dict):
        return {key: copied(value[key]) for key in value}
    if isinstance(value, list):
        return [copied(item) for item in value]
    if isinstance(value, tuple):
        return tuple([copied(item) for item in value])
    return value


def check_clearing(market, prices, sharing):
    """Tell whether the prices clear the market with the sharing, which may be any value."""
    if prices.goods != market.goods or not market.is_sharing(sharing):
        return False
    left = market.goods
    for buyer in market.buyers:
        if not is_wanted(market[buyer], prices, sharing[buyer]):
            return False
        left = rest(left, sharing[buyer])
    return prices.total(left) == 0


def check_mixture(market, mixture):
    """Tell whether the mixture is one of the market, and worth more than its unit times a best sharing."""
    weights = mixture.weights
    if not is_whole(mixture.unit, 1) or not all([is_whole(weights[pair], 0) for pair in weights]):
        return False
    if not all([buyer in market and is_bundle(market.goods, bundle) for buyer, bundle in weights]):
        return False
    for name in market.buyers:
        if sum([weights[buyer, bundle] for buyer, bundle in weights if buyer == name]) != mixture.unit:
            return False
    for good in market.goods:
        if sum([weights[buyer, bundle] for buyer, bundle in weights if good in bundle]) > mixture.unit:
            return False
    worth = sum([weights[buyer, bundle] * market[buyer](bundle) for buyer, bundle in weights])
    return worth > mixture.unit * market.best()[0]


def check_paper(market, paper):
    """Tell whether the paper is right for the market."""
    if paper[0] == CLEARS:
        return check_clearing(market, paper[1], paper[2])
    return check_mixture(market, paper[1])


def marginal_prices(market):
    """Return prices at which each good costs what a best sharing is worth more than one in which nobody gets it."""
    goods = market.goods
    worth = market.best()[0]
    return Prices({good: worth - market.best(rest(goods, (good,)))[0] for good in goods})


def decide(market):
    """Return a verdict with prices that clear the market, or with a mixture that shows that there are none.

    A linear program tells the best mixture: its rows give each buyer, and each good, at most the unit. If it is worth
    no more than its unit times a best sharing, then the costs of the goods' rows are prices that clear the market.
    """
    pairs = [(name, bundle) for name in market.buyers for bundle in filled_bundles(market.goods)]
    rows = [[1 if pair[0] == name else 0 for pair in pairs] for name in market.buyers]
    rows.extend([[1 if good in pair[1] else 0 for pair in pairs] for good in market.goods])
    worths = [market[name](bundle) for name, bundle in pairs]
    _, unit, numbers, costs = best_mix(rows, [1] * len(rows), worths)
    best, sharing = market.best()
    if sum([number * worth for number, worth in zip(numbers, worths)]) == unit * best:
        prices = Prices(dict(zip(market.goods, costs[len(market):])), unit=unit)
        return Verdict((CLEARS, prices, sharing))
    weights = {pair: number for pair, number in zip(pairs, numbers) if number > 0}
    for buyer in market.buyers:
        # The weights of a buyer add up to the unit, so the empty bundle gets what the others leave.
        given = [weights[pair] for pair in weights if pair[0] == buyer]
        weights[buyer, ()] = unit - sum(given)
    return Verdict((MIXTURE, Mixture(unit, weights)))


def higher(one, other):
    """Return prices at which each good costs the greater of what it costs at two prices."""
    unit, ours, theirs = in_common_unit(one, other)
    return Prices({good: max(ours[good], theirs[good]) for good in ours}, unit=unit)


def lower(one, other):
    """Return prices at which each good costs the lesser of what it costs at two prices."""
    unit, ours, theirs = in_common_unit(one, other)
    return Prices({good: min(ours[good], theirs[good]) for good in ours}, unit=unit)


def in_common_unit(one, other):
    """Return the least common multiple of the units of two prices, and the dicts of their amounts in it."""
    if other.goods != one.goods:
        raise UnlikeGoods(other.goods)
    unit = lcm(one.unit, other.unit)
    return (unit, one.in_unit(unit).amounts(), other.in_unit(unit).amounts())
