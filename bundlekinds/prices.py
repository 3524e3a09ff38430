"""Prices, and what a buyer with a table gains and wants at them."""

from bundlekinds.bundles import all_bundles, goods_of, is_bundle
from bundlekinds.errors import BadBundle, BadPrice, BadUnit, UnknownName, UnlikeGoods
from bundlekinds.integers import is_whole


class Prices:
    """An amount for each good, and the unit that all amounts are divided by. They never change."""

    def __init__(self, amounts, *, unit=1):
        self._goods = goods_of(sorted(amounts))
        for good in self._goods:
            if not is_whole(amounts[good], 0):
                raise BadPrice(amounts[good])
        if not is_whole(unit, 1):
            raise BadUnit(unit)
        self._amounts = {good: amounts[good] for good in self._goods}
        self._unit = unit

    @property
    def goods(self):
        """The goods in ascending order."""
        return self._goods

    @property
    def unit(self):
        """What the amounts are divided by."""
        return self._unit

    def __getitem__(self, good):
        if good not in self._goods:
            raise UnknownName(good)
        return self._amounts[good]

    def __iter__(self):
        raise TypeError("prices are read by the names of goods")

    def __eq__(self, other):
        if not isinstance(other, Prices) or self._goods != other._goods:
            return False
        ours = [self._amounts[good] * other._unit for good in self._goods]
        theirs = [other._amounts[good] * self._unit for good in self._goods]
        return ours == theirs

    def amounts(self):
        """Return the dict from the goods to their amounts."""
        return dict(self._amounts)

    def total(self, bundle):
        """Return the sum of the amounts of the goods of the bundle."""
        if not is_bundle(self._goods, bundle):
            raise BadBundle(bundle)
        return sum([self._amounts[good] for good in bundle])

    def raised(self, good, by):
        """Return the prices in which the amount of the good is greater by an integer."""
        amount = self[good]
        if not is_whole(by, 0):
            raise BadPrice(by)
        return Prices({**self._amounts, good: amount + by}, unit=self._unit)

    def in_unit(self, unit):
        """Return equal prices with another unit."""
        if not is_whole(unit, 1) or unit % self._unit != 0:
            raise BadUnit(unit)
        factor = unit // self._unit
        return Prices({good: self._amounts[good] * factor for good in self._goods}, unit=unit)

    def covers(self, other):
        """Tell whether every good costs at least as much as at the other prices."""
        if other.goods != self._goods:
            raise UnlikeGoods(other.goods)
        return all([self._amounts[good] * other.unit >= other[good] * self._unit for good in self._goods])


def gain(table, prices, bundle):
    """Return the worth of the bundle times the unit of the prices, minus the total of the bundle."""
    if prices.goods != table.goods:
        raise UnlikeGoods(prices.goods)
    return table(bundle) * prices.unit - prices.total(bundle)


def best_gain(table, prices):
    """Return the greatest gain of a bundle."""
    return max([gain(table, prices, bundle) for bundle in all_bundles(table.goods)])


def wanted(table, prices):
    """Return the list of the bundles with the greatest gain, in their order."""
    best = best_gain(table, prices)
    return [bundle for bundle in all_bundles(table.goods) if gain(table, prices, bundle) == best]


def is_wanted(table, prices, bundle):
    """Tell whether no bundle has a greater gain than this one."""
    return gain(table, prices, bundle) == best_gain(table, prices)
