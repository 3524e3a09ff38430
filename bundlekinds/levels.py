"""Levels of prices, and what goods can cost at prices that clear a market."""

from bundlekinds.bundles import all_bundles, common
from bundlekinds.clearing import check_clearing, marginal_prices
from bundlekinds.errors import BadPrice, UnknownName
from bundlekinds.integers import is_whole
from bundlekinds.prices import Prices, best_gain


def level(market, prices):
    """Return the sum of the greatest gains of all buyers and of the amounts of all goods."""
    # Prices of other goods are refused by best_gain.
    gains = [best_gain(market[buyer], prices) for buyer in market.buyers]
    return sum(gains) + prices.total(market.goods)


def climb(market):
    """Return the list of the prices of a climb, at which the level is lower and lower."""
    bundles = all_bundles(market.goods)
    overlaps = [[len(common(bundle, other)) for other in bundles] for bundle in bundles]
    gains = [[market[buyer](bundle) for bundle in bundles] for buyer in market.buyers]
    found = [Prices({good: 0 for good in market.goods})]
    at = best_raise(gains, overlaps)
    while bundles[at]:
        gains = [[gain - taken for gain, taken in zip(row, overlaps[at])] for row in gains]
        amounts = found[-1].amounts()
        found.append(Prices({good: amounts[good] + (1 if good in bundles[at] else 0) for good in amounts}))
        at = best_raise(gains, overlaps)
    return found


def best_raise(gains, overlaps):
    """Return the index of the first bundle whose goods should cost 1 more to make the level as low as possible.

    The gains are those of all bundles, for each buyer; the overlaps tell for each bundle how many goods it has in
    common with each other one. That of the empty bundle, which comes first, stands for the level as it is.
    """
    levels = []
    for overlap in overlaps:
        best = [max([gain - taken for gain, taken in zip(row, overlap)]) for row in gains]
        # The last bundle has all goods, so this is the number of goods that cost 1 more.
        levels.append(sum(best) + overlap[-1])
    return levels.index(min(levels))


def least_prices(market):
    """Return the last prices of the climb."""
    return climb(market)[-1]


def cost_range(market, good):
    """Return what the good costs at the least prices and at the marginal prices."""
    # A good that the market does not have is refused by the prices.
    return (least_prices(market)[good], marginal_prices(market)[good])


def prices_with(market, good, amount, unit=1):
    """Return clearing prices with the unit at which the good has the amount, or None if there are none to be told.

    If the goods are substitutes, then clearing prices at which all costs are lowered by the same number, but to no
    less than at other clearing prices, clear the market as well. So the marginal prices are lowered until the good
    has the amount, but nothing to less than at the least prices.
    """
    if good not in market.goods:
        raise UnknownName(good)
    if not is_whole(amount, 0):
        raise BadPrice(amount)
    # What cannot be a unit is refused by in_unit.
    least = least_prices(market).in_unit(unit)
    most = marginal_prices(market).in_unit(unit)
    if not least[good] <= amount <= most[good]:
        return None
    by = most[good] - amount
    prices = Prices({name: max(least[name], most[name] - by) for name in market.goods}, unit=unit)
    if not check_clearing(market, prices, market.best()[1]):
        return None
    return prices
