"""Markets for tests, and a second way to work out sharings, clearing prices and mixtures: by trying all of them."""

import itertools

from bundlekinds.markets import Market
from bundlekinds.prices import Prices
from bundlekinds.tables import Table
from tests.samples import plain_bundles, rising_table, substitutes_tables, wanted_of, worths_of

NAMES = ("ann", "bob", "c3", "main", "x", "y")


def all_sharings(market):
    """Return the list of all sharings of a market: each good goes to a buyer or to nobody."""
    found = []
    for owners in itertools.product(market.buyers + (None,), repeat=len(market.goods)):
        found.append({buyer: tuple(good for good, owner in zip(market.goods, owners) if owner == buyer)
                      for buyer in market.buyers})
    return found


def worth_in(market, sharing):
    """Return the worth of a sharing."""
    return sum(worths_of(market[buyer])[sharing[buyer]] for buyer in market.buyers)


def given_in(sharing):
    """Return the list of the goods that buyers get."""
    return [good for bundle in sharing.values() for good in bundle]


def worths_within(market):
    """Return the dict from each bundle to the greatest worth of a sharing of its goods."""
    found = {bundle: 0 for bundle in plain_bundles(market.goods)}
    tables = {buyer: worths_of(market[buyer]) for buyer in market.buyers}
    for sharing in all_sharings(market):
        given = tuple(sorted(given_in(sharing)))
        found[given] = max(found[given], sum(tables[buyer][sharing[buyer]] for buyer in market.buyers))
    return {bundle: max(found[part] for part in found if set(part) <= set(bundle)) for bundle in found}


def best_sharings(market):
    """Return the list of all best sharings of a market."""
    tables = {buyer: worths_of(market[buyer]) for buyer in market.buyers}
    sharings = all_sharings(market)
    worths = [sum(tables[buyer][sharing[buyer]] for buyer in market.buyers) for sharing in sharings]
    return [sharing for sharing, worth in zip(sharings, worths) if worth == max(worths)]


def is_sharing_of(market, value):
    """Tell whether a dict is a sharing of the market."""
    if set(value) != set(market.buyers):
        return False
    if any(bundle not in plain_bundles(market.goods) for bundle in value.values()):
        return False
    given = given_in(value)
    return len(given) == len(set(given))


def clears_with(market, prices, sharing):
    """Tell whether the prices clear the market with this sharing."""
    if prices.goods != market.goods or not is_sharing_of(market, sharing):
        return False
    if any(sharing[buyer] not in wanted_of(market[buyer], prices) for buyer in market.buyers):
        return False
    return all(good in given_in(sharing) or prices.amounts()[good] == 0 for good in market.goods)


def grid(goods, most, units=(1, 2)):
    """Return all prices of the goods up to the most amounts, with each of the units."""
    return [Prices(dict(zip(goods, amounts)), unit=unit) for unit in units
            for amounts in itertools.product(range(most * unit + 1), repeat=len(goods))]


def clearing_grid(market, most, units=(1, 2)):
    """Return the prices of the grid that clear the market."""
    sharing = best_sharings(market)[0]
    return [prices for prices in grid(market.goods, most, units) if clears_with(market, prices, sharing)]


def is_mixture_of(market, unit, weights):
    """Tell whether the unit and the weights are a mixture of the market that is worth more than a best sharing."""
    if unit < 1 or any(weight < 0 for weight in weights.values()):
        return False
    pairs = [(buyer, bundle) for buyer in market.buyers for bundle in plain_bundles(market.goods)]
    if any(pair not in pairs for pair in weights):
        return False
    for buyer in market.buyers:
        if sum(weights.get((buyer, bundle), 0) for bundle in plain_bundles(market.goods)) != unit:
            return False
    for good in market.goods:
        if sum(weight for (_, bundle), weight in weights.items() if good in bundle) > unit:
            return False
    worth = sum(weight * worths_of(market[buyer])[bundle] for (buyer, bundle), weight in weights.items())
    return worth > unit * worths_within(market)[market.goods]


def rough_market(chance, goods, buyers, most):
    """Return a market of tables whose worths rise at random."""
    return Market({name: rising_table(chance, goods, most) for name in chance.sample(NAMES, buyers)})


def smooth_market(chance, goods, buyers, most):
    """Return a market of tables whose goods are substitutes."""
    return Market({name: chance.choice(substitutes_tables(chance, goods, most))
                   for name in chance.sample(NAMES, buyers)})


def torn_market(chance, goods, most):
    """Return a market that often has no clearing prices: one buyer for all goods together, others for one good."""
    tables = {"main": Table(goods, [0] * (2 ** len(goods) - 2) + [most * 2 - 1])}
    for name in chance.sample(NAMES[:3], 2):
        tables[name] = Table.one_of({good: chance.randint(most // 2, most) for good in goods})
    return Market(tables)
