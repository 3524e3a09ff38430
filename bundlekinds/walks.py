"""Walks by steps that each gain something, and the bundles where they get stuck."""

from bundlekinds.bundles import all_bundles, is_bundle, rest, union
from bundlekinds.errors import IsSubstitutes
from bundlekinds.kinds import first_failure
from bundlekinds.prices import Prices, gain, is_wanted


class Stuck:
    """Prices, and a bundle that is stuck at them."""

    def __init__(self, prices, bundle):
        self._prices = prices
        self._bundle = bundle

    @property
    def prices(self):
        """The prices at which the bundle is stuck."""
        return self._prices

    @property
    def bundle(self):
        """The bundle that is stuck."""
        return self._bundle


def is_step(one, other):
    """Tell whether the other bundle lacks at most one good of the one, and has at most one good more."""
    return len(rest(one, other)) <= 1 and len(rest(other, one)) <= 1


def steps(table, prices, bundle):
    """Yield the bundles to which gaining steps lead from the bundle, in order."""
    start = gain(table, prices, bundle)
    for other in all_bundles(table.goods):
        if is_step(bundle, other) and gain(table, prices, other) > start:
            yield other


def walk(table, prices, bundle):
    """Return the list of the bundles of a walk that always takes the step with the greatest gain."""
    path = [bundle]
    found = list(steps(table, prices, bundle))
    while found:
        # Of several bundles with the greatest gain, max takes the first one.
        place = max(found, key=lambda other: gain(table, prices, other))
        path.append(place)
        found = list(steps(table, prices, place))
    return path


def is_stuck(table, prices, bundle):
    """Tell whether the bundle is not wanted, but no gaining step leads from it."""
    return not is_wanted(table, prices, bundle) and not list(steps(table, prices, bundle))


def check_stuck(table, stuck):
    """Tell whether the bundle is one of the goods of the table, and stuck at the prices."""
    if stuck.prices.goods != table.goods or not is_bundle(table.goods, stuck.bundle):
        return False
    return is_stuck(table, stuck.prices, stuck.bundle)


def stuck_case(table):
    """Return prices, and a bundle that is stuck at them, of a table whose goods are not substitutes.

    Let v tell what goods add to the bundle S of the first failure. The prices make each good of the failure gain
    the same if it alone is added to S. If a pair fails, this is 0: then i and j together gain something over S, but
    no step from S gains anything. If a triple fails, it is v(i) + v(j) - v(i, j) + 1: then i and j together gain one
    more than k does, but no step from S+k gains anything. S itself gains less, as all pairs hold; with i or j beside
    k it gains no more, as v(i, k) + v(j) and v(j, k) + v(i) are less than v(i, j) + v(k).
    """
    failure = first_failure(table)
    if failure is None:
        raise IsSubstitutes()
    kind, bundle, i, j = failure[:4]
    added = table.ahead(bundle)
    alone = 0
    if kind == "triple":
        alone = added((i,)) + added((j,)) - added((i, j)) + 1
    amounts = {good: added((good,)) - alone for good in failure[2:]}
    return Stuck(prices_around(table, bundle, amounts), union(bundle, failure[4:]))


def prices_around(table, bundle, amounts):
    """Return prices at which only the goods with the given amounts are worth a thought.

    The goods of the bundle cost nothing, so that it never pays to leave them; each other good costs more than
    all goods together are worth, so that it never pays to have it.
    """
    too_much = table(table.goods) + 1
    around = {good: 0 if good in bundle else too_much for good in table.goods}
    return Prices({**around, **amounts})
