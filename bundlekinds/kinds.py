"""Whether the goods of a table are substitutes, and where they fail to be."""

from bundlekinds.bundles import all_bundles, rest, union


def failures(table):
    """Return the list of all failures of the table: the pairs, then the triples, each in order."""
    bundles = all_bundles(table.goods)
    found = []
    for bundle in bundles:
        found.extend(pair_failures(table, bundle))
    for bundle in bundles:
        found.extend(triple_failures(table, bundle))
    return found


def pair_failures(table, bundle):
    """Return the list of the failures of pairs over one bundle, in order."""
    found = []
    left = rest(table.goods, bundle)
    for i, j in ascending_pairs(left):
        if both_worth(table, bundle, (i,), (j,)) < both_worth(table, bundle, (i, j), ()):
            found.append(("pair", bundle, i, j))
    return found


def triple_failures(table, bundle):
    """Return the list of the failures of triples over one bundle, in order."""
    found = []
    left = rest(table.goods, bundle)
    for i, j in ascending_pairs(left):
        for k in rest(left, (i, j)):
            sums = [both_worth(table, bundle, (i, k), (j,)), both_worth(table, bundle, (j, k), (i,))]
            if both_worth(table, bundle, (i, j), (k,)) > max(sums):
                found.append(("triple", bundle, i, j, k))
    return found


def ascending_pairs(names):
    """Return the list of the pairs of an earlier and a later one of the ascending names."""
    return [(i, j) for i in names for j in names if i < j]


def both_worth(table, bundle, part, other):
    """Return the worth of the bundle with one part added, plus its worth with the other part added."""
    return table(union(bundle, part)) + table(union(bundle, other))


def first_failure(table):
    """Return the first failure of the table, or None if there is none."""
    found = failures(table)
    if not found:
        return None
    return found[0]


def is_substitutes(table):
    """Tell whether the goods of the table are substitutes."""
    return first_failure(table) is None


def check_failure(table, failure):
    """Tell whether the value, which may be of any kind, is a failure of the table."""
    return failure in failures(table)
