"""What several tests share: goods, tables made by hand, values of any kind, and a second way to work things out."""

import itertools
import random
import unittest

from bundlekinds.prices import Prices
from bundlekinds.tables import Table

FIVE = ("a", "b1", "c", "d9", "e")
MILLION = 1000000

# Worths of three goods, from 0 to 2 with the greatest one last: every table of these, as far as it rises.
SMALL_NUMBERS = [numbers for numbers in itertools.product(range(3), repeat=7)
                 if all(numbers[at] <= numbers[above] for at, above in [
                     (0, 3), (1, 3), (0, 4), (2, 4), (1, 5), (2, 5), (3, 6), (4, 6), (5, 6)])]


def any_values():
    """Return values of any kind, none of them a tuple of goods, but for the empty one at the end."""
    return [None, True, False, 0, 1, -7, 10 ** 30, "", "x", "x y", "-", [], ["x"], ["x", "y"], {}, {"x": 1},
            {1: {"y": []}}, [[[[["x"]]]]], ("x", None), (1,), (True, "x"), (["x"],), (("x",),), ({"x": 2}, "y"),
            ((((("x",),),),),), ()]


def no_integers():
    """Return values of any kind that are no integers."""
    return [True, False, None, "", "1", "-1", "x", [], [1], (), (1,), {}, {"x": 1}]


def plain_bundles(goods):
    """Return all bundles of the goods in order, worked out in another way than the program does."""
    found = [tuple(good for at, good in enumerate(goods) if number >> at & 1) for number in range(2 ** len(goods))]
    return sorted(found, key=lambda bundle: (len(bundle), bundle))


def worths_of(table):
    """Return the dict from all bundles to their worths, from the properties of the table alone."""
    return dict(zip(plain_bundles(table.goods), (0,) + table.numbers))


def table_by(goods, worth):
    """Return the table of the goods in which each bundle has the worth that the function tells."""
    return Table(goods, [worth(bundle) for bundle in plain_bundles(goods)[1:]])


def rising_table(chance, goods, most):
    """Return a table of any kind whose worths grow by at most `most` from a good to the next one."""
    worths = {(): 0}
    for bundle in plain_bundles(goods)[1:]:
        least = max(worths[tuple(good for good in bundle if good != other)] for other in bundle)
        worths[bundle] = min(MILLION, least + chance.choice([0, chance.randint(0, most)]))
    return Table(goods, [worths[bundle] for bundle in plain_bundles(goods)[1:]])


def chain_rows(chance, goods, most):
    """Return rows of `Table.nested`: some bundles, each of goods of the one before it or of none of them."""
    rows = []
    parts = [tuple(goods)]
    while parts and len(rows) < 12:
        part = parts.pop()
        steps = sorted([chance.randint(0, most) for _ in part], reverse=True)
        rows.append((part, steps))
        if len(part) > 1:
            left = tuple(good for good in part if chance.random() < 0.5)
            parts.extend(piece for piece in (left, tuple(good for good in part if good not in left))
                         if 0 < len(piece) < len(part))
    return rows


def substitutes_tables(chance, goods, most):
    """Return a table of the goods from each way to make tables whose goods are always substitutes."""
    amounts = {good: chance.randint(0, most) for good in goods}
    small = {good: chance.randint(0, most) for good in goods}
    nested = Table.nested(goods, chain_rows(chance, goods, most))
    return [Table.plain(amounts), Table.one_of(amounts), Table.some_of(amounts, chance.randint(0, len(goods))), nested,
            nested.plus(small), Table.one_of(amounts).plus(small).times(chance.randint(1, 3))]


def capped_table(goods, amounts, cap):
    """Return the table of the sums of amounts, but at most the cap: its pairs hold, its triples often fail."""
    return table_by(goods, lambda bundle: min(cap, sum(amounts[goods.index(good)] for good in bundle)))


def curved_table(goods, amounts, extra):
    """Return the table of the sums of amounts and an extra worth that grows with the number of goods.

    The triples hold, as each of their sums gets the same extra worths; the pairs fail if the extra worths rise more
    and more steeply.
    """
    return table_by(goods, lambda bundle: sum(amounts[goods.index(good)] for good in bundle) + extra[len(bundle)])


def gains_of(table, prices):
    """Return the dict from all bundles to their gains."""
    worths = worths_of(table)
    amounts = prices.amounts()
    return {bundle: worths[bundle] * prices.unit - sum(amounts[good] for good in bundle) for bundle in worths}


def wanted_of(table, prices):
    """Return the list of the bundles with the greatest gain, in order."""
    gains = gains_of(table, prices)
    best = max(gains.values())
    return [bundle for bundle in gains if gains[bundle] == best]


def gaining(table, prices, bundle):
    """Return the list of the bundles to which gaining steps lead from the bundle, in order."""
    gains = gains_of(table, prices)
    return [other for other in gains if len(set(bundle) - set(other)) <= 1 and len(set(other) - set(bundle)) <= 1
            and gains[other] > gains[bundle]]


def stuck_at(table, prices, bundle):
    """Tell whether the bundle is stuck at the prices."""
    gains = gains_of(table, prices)
    return gains[bundle] < max(gains.values()) and not gaining(table, prices, bundle)


def failures_of(table):
    """Return the list of all failures, sorted at the end instead of being found in order."""
    worths = worths_of(table)
    found = []
    for bundle in worths:
        def worth(*more):
            return worths[tuple(sorted(bundle + more))]
        others = [good for good in table.goods if good not in bundle]
        for i, j in itertools.permutations(others, 2):
            if i < j and worth(i) + worth(j) < worth(i, j) + worth():
                found.append(("pair", bundle, i, j))
        for i, j, k in itertools.permutations(others, 3):
            sums = [worth(i, j) + worth(k), worth(i, k) + worth(j), worth(j, k) + worth(i)]
            if i < j and sums[0] > sums[1] and sums[0] > sums[2]:
                found.append(("triple", bundle, i, j, k))
    return sorted(found, key=lambda item: (item[0], len(item[1]), item[1:]))


def some_prices(chance, goods, most):
    """Return some prices of the goods with units from 1 to 3: at nothing, all alike, and each of its own."""
    return [Prices({good: 0 for good in goods}), Prices({good: most // 2 for good in goods}, unit=2)] + [
        Prices({good: chance.randint(0, most) for good in goods}, unit=chance.randint(1, 3)) for _ in range(4)]


class Case(unittest.TestCase):
    """A test case that looks at the very arguments of the errors that calls raise."""

    def check_raises(self, kind, told, call, *rows, **named):
        """Check that the call raises an error of this very kind, with exactly the attributes that are told."""
        with self.subTest(rows=rows, named=named):
            with self.assertRaises(kind) as caught:
                call(*rows, **named)
            self.assertIs(caught.exception.__class__, kind)
            self.assertEqual(vars(caught.exception), told)
            for name, value in told.items():
                self.assertIs(getattr(caught.exception, name).__class__, value.__class__)

    def check_keeps(self, kind, name, value, call, *rows):
        """Check that the call raises an error of this kind that holds this very value."""
        with self.assertRaises(kind) as caught:
            call(*rows)
        self.assertIs(getattr(caught.exception, name), value)


def chance_of(text):
    """Return a source of numbers that are the same in every run."""
    return random.Random(text)
