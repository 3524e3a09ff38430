"""Tables of many kinds: with failures of pairs, of triples, of both, and without failures."""

from bundlekinds.tables import Table
from tests.samples import (FIVE, MILLION, SMALL_NUMBERS, capped_table, curved_table, plain_bundles, rising_table,
                           substitutes_tables, table_by, worths_of)


def covering_table(chance, goods, most):
    """Return a table of what the goods cover together: its pairs hold, its triples often fail."""
    places = [chance.randint(0, most) for _ in range(7)]
    covers = {good: [at for at in range(7) if chance.random() < 0.5] for good in goods}
    return table_by(goods, lambda bundle: sum(worth for at, worth in enumerate(places)
                                              if any(at in covers[good] for good in bundle)))


def shaken_table(chance, table, size):
    """Return a table that differs from the given one in the worths of bundles of at least so many goods.

    Then the first failure, if the given table has none, stands over a bundle of at least so many goods less two.
    """
    worths = worths_of(table)
    for bundle in plain_bundles(table.goods)[1:]:
        if len(bundle) >= size:
            least = max(worths[tuple(good for good in bundle if good != other)] for other in bundle)
            worths[bundle] = max(least, worths[bundle] + chance.choice([-2, -1, 0, 0, 0, 1]))
    return table_by(table.goods, worths.get)


def small_tables():
    """Return the tables of two goods with worths up to 8, and those of three goods with worths up to 2."""
    pairs = [Table(["x", "y"], [x, y, more]) for x in range(4) for y in range(4) for more in range(max(x, y), 9)]
    return pairs + [Table(["x", "y", "z"], numbers) for numbers in SMALL_NUMBERS]


def pair_tables(chance, top=100000):
    """Return tables of which pairs fail, but no triples."""
    found = []
    for many in range(2, 6):
        for most in [1, 9, top]:
            for extra in [[0, 0, 0, 0, 0, 1], [0, 1, 3, 6, 10, 15], [0, 5, 10, 15, 20, 26]]:
                extras = extra[:many] + [extra[many] + most]
                found.append(curved_table(FIVE[:many], [chance.randint(0, most) for _ in range(many)], extras))
    return found


def triple_tables(chance, top=100000):
    """Return tables of which triples fail, or nothing, but no pairs."""
    found = []
    for many in range(3, 6):
        for most in [2, 9, 1000, top]:
            for _ in range(12):
                amounts = [chance.randint(1, most) for _ in range(many)]
                found.append(capped_table(FIVE[:many], amounts, chance.randint(1, sum(amounts))))
                found.append(covering_table(chance, FIVE[:many], most))
    return found


def rough_tables(chance, top=200000):
    """Return tables whose worths rise at random, so that most of them have failures of both kinds."""
    return [rising_table(chance, FIVE[:many], most) for many in range(3, 6) for most in [1, 2, 9, 1000, top]
            for _ in range(12)]


def apart_tables(chance, amounts=(1, 30, 900, 30000, 900000)):
    """Return tables whose worths are far apart from good to good."""
    found = []
    top = min(MILLION, amounts[-1] * 10 // 9)
    for many in range(3, 6):
        for _ in range(20):
            some = chance.sample(amounts, many)
            cap = min(top, sum(some) - chance.choice(some) // 2 - 1)
            bonus = {good: chance.choice([0, 1, top * 6 // 100]) for good in FIVE[:many]}
            found.append(capped_table(FIVE[:many], some, cap))
            found.append(capped_table(FIVE[:many], some, max(some)))
            found.append(capped_table(FIVE[:many], [amount // 2 for amount in some], cap // 2).plus(bonus))
    return found


def great_tables(top=MILLION):
    """Return tables with failures whose greatest worths are as given."""
    return [Table(["x", "y"], [0, 0, top]), Table(["x", "y"], [1, top - 2, top]),
            Table(["x", "y", "z"], [top // 2, top // 2, top // 2 + 1, top, top, top, top]),
            Table(FIVE, [0] * 30 + [top]), Table(FIVE, [0] * 25 + [top] * 6)]


def shaken_tables(chance):
    """Return pairs of a size, and a table that has no failures over bundles of less goods than the size less two."""
    found = []
    for many in range(3, 6):
        for size in range(3, many + 1):
            for _ in range(25):
                for table in substitutes_tables(chance, FIVE[:many], 9):
                    found.append((size, shaken_table(chance, table, size)))
    return found


def smooth_tables(chance, amounts=(0, 1, 7, 20000)):
    """Return tables whose goods are substitutes."""
    return [table for many in range(1, 6) for most in amounts
            for table in substitutes_tables(chance, FIVE[:many], most)]
