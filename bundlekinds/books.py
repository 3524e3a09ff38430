"""Books, which keep the tables of buyers and can take back what was changed."""

from bundlekinds.bundles import goods_of
from bundlekinds.clearing import decide
from bundlekinds.errors import BadCount, BadName, NothingToUndo, UnknownName, UnlikeGoods
from bundlekinds.markets import MOST_BUYERS, Market
from bundlekinds.naming import valid_name


class Book:
    """Tables over the same goods, under the names of their buyers, in the order in which they came."""

    def __init__(self, goods):
        self._goods = goods_of(goods)
        # A dict that is kept here never changes: each change puts a new one in its place.
        self._tables = {}
        self._earlier = []

    @property
    def goods(self):
        """The goods in ascending order."""
        return self._goods

    @property
    def order(self):
        """The names in the order of their tables."""
        return tuple(self._tables)

    def __contains__(self, name):
        return name in self._tables

    def __len__(self):
        return len(self._tables)

    def __getitem__(self, name):
        if name not in self._tables:
            raise UnknownName(name)
        return self._tables[name]

    def __iter__(self):
        raise TypeError("the tables of a book are read by the names of their buyers")

    def __setitem__(self, name, table):
        if not valid_name(name):
            raise BadName(name)
        if table.goods != self._goods:
            raise UnlikeGoods(table.goods)
        if name not in self._tables and len(self._tables) == MOST_BUYERS:
            raise BadCount(MOST_BUYERS + 1)
        self._earlier.append(self._tables)
        self._tables = {**self._tables, name: table}

    def drop(self, name):
        """Remove the table under the name."""
        if name not in self._tables:
            raise UnknownName(name)
        self._earlier.append(self._tables)
        self._tables = {other: self._tables[other] for other in self._tables if other != name}

    def undo(self):
        """Take back the last change that has not been taken back."""
        if not self._earlier:
            raise NothingToUndo()
        self._tables = self._earlier.pop()

    def market(self):
        """Return the market of the tables."""
        return Market(self._tables)

    def verdict(self):
        """Return the verdict of the market of the tables."""
        return decide(self.market())

    def tried(self, changes):
        """Return the verdict that the book would have after some changes."""
        book = Book(self._goods)
        for name in list(self._tables):
            book[name] = self._tables[name]
        for name, table in changes:
            if table is None:
                book.drop(name)
            else:
                book[name] = table
        return book.verdict()
