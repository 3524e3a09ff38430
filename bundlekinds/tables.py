"""Tables: what each bundle of some goods is worth."""

from bundlekinds.bundles import all_bundles, bundle_text, common, goods_of, is_bundle, read_bundle, rest, union
from bundlekinds.errors import (BadBundle, BadCount, BadFactor, BadSteps, BadText, BadWorth, NotNested, NotRising,
                                UnknownName, UnlikeGoods)
from bundlekinds.integers import is_whole
from bundlekinds.naming import DIGITS

MOST_WORTH = 1000000
MOST_FACTOR = 1000
MOST_DIGITS = 9


class Table:
    """The worths of all bundles of some goods. It never changes."""

    def __init__(self, goods, numbers):
        self._goods = goods_of(goods)
        self._worths = worths_of(self._goods, numbers)
        self._numbers = tuple(numbers)

    @classmethod
    def plain(cls, amounts):
        """Return the table in which a bundle is worth the sum of the amounts of its goods."""
        return cls.some_of(amounts, len(amounts))

    @classmethod
    def one_of(cls, amounts):
        """Return the table in which a bundle is worth the greatest amount of its goods."""
        return cls.some_of(amounts, 1)

    @classmethod
    def some_of(cls, amounts, most):
        """Return the table in which a bundle is worth the sum of the `most` greatest amounts of its goods."""
        goods = goods_of(sorted(amounts))
        check_amounts(goods, amounts)
        if not is_whole(most, 0, len(goods)):
            raise BadCount(most)
        return cls(goods, [greatest_sum(amounts, bundle, most) for bundle in filled_bundles(goods)])

    @classmethod
    def nested(cls, goods, rows):
        """Return the table in which each row adds as many of its steps as the bundle has goods of the row's bundle."""
        names = goods_of(goods)
        check_rows(names, rows)
        return cls(names, [steps_sum(rows, bundle) for bundle in filled_bundles(names)])

    @classmethod
    def read(cls, text):
        """Return the table that has this text."""
        names, _, worths = text.partition(": ")
        words = worths.split(" ")
        if not all([is_number(word) for word in words]):
            raise BadText(text)
        try:
            goods = read_bundle(names)
        except BadText:
            raise BadText(text) from None
        # The empty bundle has a text, too, but a table has goods.
        if not goods:
            raise BadText(text)
        return cls(goods, [int(word) for word in words])

    @property
    def goods(self):
        """The goods in ascending order."""
        return self._goods

    @property
    def numbers(self):
        """The worths of all bundles but the empty one, in the order of the bundles."""
        return self._numbers

    def __call__(self, bundle):
        if not is_bundle(self._goods, bundle):
            raise BadBundle(bundle)
        return self._worths[bundle]

    def __eq__(self, other):
        return isinstance(other, Table) and self._goods == other._goods and self._numbers == other._numbers

    def __str__(self):
        goods = bundle_text(self._goods)
        numbers = " ".join([str(number) for number in self._numbers])
        return f"{goods}: {numbers}"

    def restricted(self, goods):
        """Return the table for these goods alone."""
        names = goods_of(goods)
        for name in names:
            if name not in self._goods:
                raise UnknownName(name)
        return Table(names, [self._worths[bundle] for bundle in filled_bundles(names)])

    def ahead(self, bundle):
        """Return the table of what the other goods add to the worth of the bundle."""
        if not is_bundle(self._goods, bundle):
            raise BadBundle(bundle)
        left = rest(self._goods, bundle)
        worth = self._worths[bundle]
        return Table(left, [self._worths[union(bundle, part)] - worth for part in filled_bundles(left)])

    def plus(self, amounts):
        """Return the table in which each good adds its amount to the worth of a bundle."""
        names = tuple(sorted(amounts))
        if names != self._goods:
            raise UnlikeGoods(names)
        check_amounts(names, amounts)
        bundles = filled_bundles(names)
        return Table(names, [self._worths[bundle] + sum([amounts[good] for good in bundle]) for bundle in bundles])

    def times(self, factor):
        """Return the table in which all worths are multiplied by the factor."""
        if not is_whole(factor, 1, MOST_FACTOR):
            raise BadFactor(factor)
        return Table(self._goods, [number * factor for number in self._numbers])


def filled_bundles(goods):
    """Return the list of all bundles of the goods but the empty one, in their order."""
    return all_bundles(goods)[1:]


def worths_of(goods, numbers):
    """Return the dict from the bundles to their worths; raise an error if the numbers cannot be these."""
    bundles = all_bundles(goods)
    if len(numbers) != len(bundles) - 1:
        raise BadCount(len(numbers))
    for number in numbers:
        if not is_worth(number):
            raise BadWorth(number)
    worths = dict(zip(bundles, [0, *numbers]))
    for bundle in bundles:
        for good in rest(goods, bundle):
            if worths[union(bundle, (good,))] < worths[bundle]:
                raise NotRising(bundle, good)
    return worths


def is_worth(value):
    """Tell whether the value, which may be of any kind, can be a worth."""
    return is_whole(value, 0, MOST_WORTH)


def is_number(word):
    """Tell whether the word is a number as the texts of tables have them."""
    if not 1 <= len(word) <= MOST_DIGITS or not all([sign in DIGITS for sign in word]):
        return False
    return word == "0" or word[0] != "0"


def check_amounts(goods, amounts):
    """Raise an error for the first good with an amount that cannot be a worth."""
    for good in goods:
        if not is_worth(amounts[good]):
            raise BadWorth(amounts[good])


def greatest_sum(amounts, bundle, most):
    """Return the sum of the `most` greatest amounts of the goods of the bundle."""
    return sum(sorted([amounts[good] for good in bundle], reverse=True)[:most])


def check_rows(goods, rows):
    """Raise an error for the first row that is no bundle with steps, or whose bundle overlaps an earlier one."""
    for at, (bundle, steps) in enumerate(rows):
        if not is_bundle(goods, bundle):
            raise BadBundle(bundle)
        if len(steps) != len(bundle) or not are_falling(steps):
            raise BadSteps(steps)
        for earlier, _ in rows[:at]:
            if is_overlap(earlier, bundle):
                raise NotNested(bundle)


def are_falling(steps):
    """Tell whether all steps can be worths, and none is greater than the one before it."""
    if not all([is_worth(step) for step in steps]):
        return False
    return all([steps[at] <= steps[at - 1] for at in range(1, len(steps))])


def is_overlap(one, other):
    """Tell whether two bundles have goods in common, and neither has all goods of the other."""
    return common(one, other) not in ((), one, other)


def steps_sum(rows, bundle):
    """Return the sum of the first steps of each row, as many as the bundle has goods in common with the row's."""
    return sum([sum(steps[:len(common(bundle, other))]) for other, steps in rows])
