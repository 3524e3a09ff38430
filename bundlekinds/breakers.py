"""Buyers who each want at most one good, and with whom a market has no clearing prices."""

from bundlekinds.bundles import rest, union
from bundlekinds.clearing import Mixture, check_mixture
from bundlekinds.errors import BundleError, DuplicateName, IsSubstitutes
from bundlekinds.kinds import first_failure
from bundlekinds.markets import Market
from bundlekinds.tables import Table, filled_bundles

MAIN = "main"
EITHER = "either"


class Break:
    """A factor for a table, further buyers, and a mixture of the market of all of them. It never changes."""

    def __init__(self, factor, others, mixture):
        self._factor = factor
        self._others = dict(others)
        self._mixture = mixture

    @property
    def factor(self):
        """What the worths of the table are multiplied by."""
        return self._factor

    @property
    def others(self):
        """The dict from the names of the further buyers to their tables."""
        return dict(self._others)

    @property
    def mixture(self):
        """The mixture that shows that no prices clear the market."""
        return self._mixture


def wants_one(table):
    """Tell whether each bundle is worth just as much as the best of its goods alone."""
    return all([table(bundle) == max([table((good,)) for good in bundle]) for bundle in filled_bundles(table.goods)])


def broken_market(table, told):
    """Return the market of the main buyer, who has the table times the factor, and the others."""
    others = told.others
    if MAIN in others:
        raise DuplicateName(MAIN)
    main = table.times(told.factor)
    return Market({**others, MAIN: main})


def check_break(table, told):
    """Tell whether each of the others wants one good, and the mixture shows that no prices clear the market."""
    try:
        market = broken_market(table, told)
    except BundleError:
        return False
    others = told.others
    return all([wants_one(others[name]) for name in others]) and check_mixture(market, told.mixture)


def breakers(table):
    """Return further buyers with whom the market has no clearing prices, for a table whose goods are not substitutes.

    Let S be the bundle of the first failure, and v tell what goods add to it. One further buyer gives v(i, j) - v(j)
    for i, or v(i, j) - v(i) for j, so no sharing makes more of these two goods than v(i, j). If a pair fails, the
    mixture does: the main buyer has half of i and j together and half of nothing, the other one half of i and half of
    j. If a triple fails, but no pair, the main buyer has half of k instead of nothing, and a buyer who gives
    w = v(k) + v(i, j) - v(i) - v(j) - 1 for k has the other half. Then no sharing of the three goods is worth more than
    v(i, j) + w, as v(i, k) + v(j) and v(j, k) + v(i) are less than v(i, j) + v(k), and the mixture is worth half of 1
    more. S is the main buyer's, and each other good has a buyer who gives as much for it as the table for all goods.
    """
    failure = first_failure(table)
    if failure is None:
        raise IsSubstitutes()
    _, bundle, i, j = failure[:4]
    third = failure[4:]
    added = table.ahead(bundle)
    both = added((i, j))
    others = {EITHER: one_wanted(table.goods, {i: both - added((j,)), j: both - added((i,))})}
    weights = {(MAIN, union(bundle, (i, j))): 1, (MAIN, union(bundle, third)): 1, (EITHER, (i,)): 1, (EITHER, (j,)): 1}
    for at, good in enumerate(rest(rest(table.goods, bundle), (i, j))):
        name = f"only{at}"
        worth = table(table.goods)
        half = 0
        if good in third:
            worth = added(third) + both - added((i,)) - added((j,)) - 1
            half = 1
        others[name] = one_wanted(table.goods, {good: worth})
        weights[name, (good,)] = 2 - half
        weights[name, ()] = half
    return Break(1, others, Mixture(2, weights))


def one_wanted(goods, amounts):
    """Return the table that wants one good, and to which just the goods with amounts are worth something."""
    return Table.one_of({good: amounts.get(good, 0) for good in goods})
