"""Rises of prices, and goods that are dropped although they did not get dearer."""

from bundlekinds.bundles import common, is_bundle, union
from bundlekinds.errors import NotHigher, NotWanted, UnlikeGoods
from bundlekinds.kinds import first_failure
from bundlekinds.prices import is_wanted, wanted
from bundlekinds.walks import stuck_case


class Rise:
    """A rise of prices after which a good of a wanted bundle is dropped that did not get dearer."""

    def __init__(self, before, after, bundle, good):
        self._before = before
        self._after = after
        self._bundle = bundle
        self._good = good

    @property
    def before(self):
        """The prices before the rise."""
        return self._before

    @property
    def after(self):
        """The prices after the rise."""
        return self._after

    @property
    def bundle(self):
        """The bundle that is wanted before the rise."""
        return self._bundle

    @property
    def good(self):
        """The good that is dropped."""
        return self._good


def kept(table, before, after, bundle):
    """Return the first bundle wanted after a rise that has all goods of the bundle whose prices stayed, or None."""
    for prices in (before, after):
        if prices.goods != table.goods:
            raise UnlikeGoods(prices.goods)
    for good in table.goods:
        if is_cheaper(after, before, good):
            raise NotHigher(good)
    # A value that is no bundle is refused by is_wanted.
    if not is_wanted(table, before, bundle):
        raise NotWanted(bundle)
    stayed = tuple([good for good in bundle if not is_cheaper(before, after, good)])
    for other in wanted(table, after):
        if common(stayed, other) == stayed:
            return other
    return None


def is_cheaper(one, other, good):
    """Tell whether the good costs less at the first prices than at the others."""
    return one[good] * other.unit < other[good] * one.unit


def check_rise(table, rise):
    """Tell whether the good of a wanted bundle is dropped at prices that are as high or higher, but not for it."""
    before = rise.before
    after = rise.after
    if before.goods != table.goods or after.goods != table.goods or not after.covers(before):
        return False
    if not is_bundle(table.goods, rise.bundle) or not is_wanted(table, before, rise.bundle):
        return False
    if rise.good not in rise.bundle or is_cheaper(before, after, rise.good):
        return False
    return not any([rise.good in bundle for bundle in wanted(table, after)])


def rise_case(table):
    """Return a rise of one price after which another good is dropped, for a table whose goods are not substitutes.

    It begins at the prices of `stuck_case`, with the good j of the failure dearer by 1. Let S be the failure's bundle.
    At these prices i and j together gain one less over S than they did, and still no bundle gains more: of a pair
    they gained something, of a triple one more than k did. When i gets too dear, S alone is better than any bundle
    with j if a pair fails, as j alone was worth its amount before; S+k is better if a triple fails, as j, also beside
    k, gained no more than k did.
    """
    case = stuck_case(table)
    _, bundle, i, j = first_failure(table)[:4]
    before = case.prices.raised(j, 1)
    after = before.raised(i, table(table.goods) + 1)
    return Rise(before, after, union(bundle, (i, j)), j)
