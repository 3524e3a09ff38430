"""Goods and bundles: ascending tuples of different names."""

from bundlekinds.errors import BadCount, BadName, BadText, DuplicateName
from bundlekinds.naming import valid_name

MOST_GOODS = 5
EMPTY_TEXT = "-"


def goods_of(names):
    """Return the tuple of the names in ascending order."""
    if not 1 <= len(names) <= MOST_GOODS:
        raise BadCount(len(names))
    for at, name in enumerate(names):
        if not valid_name(name):
            raise BadName(name)
        if name in names[:at]:
            raise DuplicateName(name)
    return tuple(sorted(names))


def all_bundles(goods):
    """Return the list of all bundles of the goods, shorter ones first."""
    bundles = []
    layer = [()]
    while layer:
        bundles.extend(layer)
        # Only a later good is added, so each bundle is built once, and the next layer is in order like this one.
        layer = [bundle + (good,) for bundle in layer for good in goods if not bundle or bundle[-1] < good]
    return bundles


def is_bundle(goods, value):
    """Tell whether the value, which may be of any kind, is a bundle of the goods."""
    if not isinstance(value, tuple):
        return False
    # The items may be of any kind, so they are only asked whether they equal a good, never ordered or hashed.
    return value == tuple([good for good in goods if good in value])


def union(one, other):
    """Return the bundle of the goods that are in one of two bundles."""
    return tuple(sorted(set(one) | set(other)))


def common(one, other):
    """Return the bundle of the goods that are in both bundles."""
    return tuple([good for good in one if good in other])


def rest(one, other):
    """Return the bundle of the goods that are in the first bundle but not in the second."""
    return tuple([good for good in one if good not in other])


def splits(bundle):
    """Yield each part of the bundle with the bundle of its other goods, in the order of the parts."""
    for part in all_bundles(bundle):
        yield (part, rest(bundle, part))


def bundle_text(bundle):
    """Return the names of the goods, separated by single spaces."""
    if not bundle:
        return EMPTY_TEXT
    return " ".join(bundle)


def read_bundle(text):
    """Return the bundle that has this text."""
    if text == EMPTY_TEXT:
        return ()
    names = text.split(" ")
    if len(names) > MOST_GOODS or not all([valid_name(name) for name in names]):
        raise BadText(text)
    if names != sorted(set(names)):
        raise BadText(text)
    return tuple(names)
