"""Exchanges of goods between two bundles, and rows of wanted bundles that steps link."""

from bundlekinds.bundles import is_bundle, rest, union
from bundlekinds.errors import BadBundle, IsSubstitutes, NotWanted, UnknownName
from bundlekinds.kinds import first_failure
from bundlekinds.prices import is_wanted, wanted
from bundlekinds.walks import is_step


def exchange(table, one, other, good):
    """Return the first exchange of the good after which two bundles are together worth at least as much, or None."""
    for bundle in (one, other):
        if not is_bundle(table.goods, bundle):
            raise BadBundle(bundle)
    if good not in one or good in other:
        raise UnknownName(good)
    given = (good,)
    for taken in [()] + [(name,) for name in rest(other, one)]:
        first = union(rest(one, given), taken)
        second = union(rest(other, taken), given)
        if table(first) + table(second) >= table(one) + table(other):
            return (first, second)
    return None


def exchange_case(table):
    """Return two bundles and a good without an exchange, for a table whose goods are not substitutes.

    If a failure tells the bundle S, then i cannot leave S+i+j for S, or for S+k: each exchange leads to one of the
    sums that are too small there.
    """
    failure = first_failure(table)
    if failure is None:
        raise IsSubstitutes()
    _, bundle, i, j = failure[:4]
    return (union(bundle, (i, j)), union(bundle, failure[4:]), i)


def check_exchange(table, case):
    """Tell whether the value, which may be of any kind, is two bundles and a good without an exchange."""
    if not isinstance(case, tuple) or len(case) != 3:
        return False
    one, other, good = case
    try:
        return exchange(table, one, other, good) is None
    except (BadBundle, UnknownName):
        return False


def linked(table, prices, one, other):
    """Return a shortest list of wanted bundles, each a step from the one before it, from one to another, or None."""
    # Both bundles are looked at before one of them is refused as not wanted.
    answers = [(bundle, is_wanted(table, prices, bundle)) for bundle in (one, other)]
    for bundle, answer in answers:
        if not answer:
            raise NotWanted(bundle)
    bundles = wanted(table, prices)
    rows = {one: [one]}
    queue = [one]
    while queue:
        last = queue.pop(0)
        for bundle in bundles:
            if bundle not in rows and is_step(last, bundle):
                rows[bundle] = rows[last] + [bundle]
                queue.append(bundle)
    return rows.get(other)
