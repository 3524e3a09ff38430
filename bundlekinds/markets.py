"""Markets of buyers, and how goods are shared among them."""

from bundlekinds.bundles import all_bundles, is_bundle, rest, splits
from bundlekinds.errors import BadBundle, BadCount, BadName, BadSharing, UnknownName, UnlikeGoods
from bundlekinds.naming import valid_name
from bundlekinds.tables import Table, filled_bundles

MOST_BUYERS = 6


class Market:
    """Some buyers, each with a table over the same goods. It never changes."""

    def __init__(self, tables):
        if not 1 <= len(tables) <= MOST_BUYERS:
            raise BadCount(len(tables))
        self._buyers = tuple(sorted(tables))
        for buyer in self._buyers:
            if not valid_name(buyer):
                raise BadName(buyer)
        self._goods = tables[self._buyers[0]].goods
        for buyer in self._buyers:
            if tables[buyer].goods != self._goods:
                raise UnlikeGoods(tables[buyer].goods)
        self._tables = {buyer: tables[buyer] for buyer in self._buyers}

    @property
    def buyers(self):
        """The names of the buyers in ascending order."""
        return self._buyers

    @property
    def goods(self):
        """The goods in ascending order."""
        return self._goods

    def __getitem__(self, buyer):
        if buyer not in self._buyers:
            raise UnknownName(buyer)
        return self._tables[buyer]

    def __iter__(self):
        raise TypeError("the tables of a market are read by the names of its buyers")

    def __contains__(self, buyer):
        return buyer in self._buyers

    def __len__(self):
        return len(self._buyers)

    def __eq__(self, other):
        return isinstance(other, Market) and self._tables == other._tables

    def is_sharing(self, value):
        """Tell whether the value, which may be of any kind, gives each buyer a bundle, and no good to two of them."""
        if not isinstance(value, dict) or len(value) != len(self._buyers):
            return False
        left = self._goods
        for buyer in self._buyers:
            # The goods that an earlier buyer got are not there any more.
            if buyer not in value or not is_bundle(left, value[buyer]):
                return False
            left = rest(left, value[buyer])
        return True

    def worth_of(self, sharing):
        """Return the sum of what the bundles of the sharing are worth to their buyers."""
        if not self.is_sharing(sharing):
            raise BadSharing(sharing)
        return sum([self._tables[buyer](sharing[buyer]) for buyer in self._buyers])

    def best(self, bundle=None):
        """Return the greatest worth of a sharing of goods of the bundle, or of all goods, and such a sharing."""
        left = self._goods if bundle is None else bundle
        if not is_bundle(self._goods, left):
            raise BadBundle(bundle)
        layers = self.best_shares(left)
        worth = layers[-1][left][0]
        shares = {}
        for buyer, layer in zip(self._buyers[::-1], layers[::-1]):
            shares[buyer] = layer[left][1]
            left = rest(left, shares[buyer])
        return (worth, {buyer: shares[buyer] for buyer in self._buyers})

    def best_shares(self, bundle):
        """Return for each buyer, in order, the dict from each part of the bundle to a worth and a share.

        It is the greatest worth that this buyer and those before this one can make of the part, and the share that
        this buyer gets of it then.
        """
        layers = []
        worths = {part: 0 for part in all_bundles(bundle)}
        for buyer in self._buyers:
            table = self._tables[buyer]
            layers.append({part: max([(table(share) + worths[left], share) for share, left in splits(part)])
                           for part in worths})
            worths = {part: layers[-1][part][0] for part in worths}
        return layers

    def joint(self):
        """Return the table of the greatest worths that sharings can make of each bundle."""
        layer = self.best_shares(self._goods)[-1]
        return Table(self._goods, [layer[bundle][0] for bundle in filled_bundles(self._goods)])

    def restricted(self, goods):
        """Return the market for these goods alone."""
        return Market({buyer: self._tables[buyer].restricted(goods) for buyer in self._buyers})

    def with_buyer(self, name, table):
        """Return the market in which the buyer has this table."""
        if not valid_name(name):
            raise BadName(name)
        if table.goods != self._goods:
            raise UnlikeGoods(table.goods)
        return Market({**self._tables, name: table})
