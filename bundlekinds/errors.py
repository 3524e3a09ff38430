"""The errors of the program. Each keeps its arguments as they are."""


class BundleError(ValueError):
    """The base of all errors of the program."""


class BadName(BundleError):
    """A string that should be a name is none."""

    def __init__(self, name):
        self.name = name


class DuplicateName(BundleError):
    """A name occurs a second time where each may occur once."""

    def __init__(self, name):
        self.name = name


class UnknownName(BundleError):
    """Nothing has this name."""

    def __init__(self, name):
        self.name = name


class BadCount(BundleError):
    """There are too few or too many of something."""

    def __init__(self, count):
        self.count = count


class BadBundle(BundleError):
    """A value is not a bundle of the goods."""

    def __init__(self, value):
        self.value = value


class BadWorth(BundleError):
    """A worth is not an integer within the bounds."""

    def __init__(self, worth):
        self.worth = worth


class NotRising(BundleError):
    """A bundle is worth less than the same bundle without the named good."""

    def __init__(self, value, name):
        self.value = value
        self.name = name


class BadText(BundleError):
    """A text is not of the form that is read."""

    def __init__(self, text):
        self.text = text


class BadPrice(BundleError):
    """An amount is not an integer from 0 on."""

    def __init__(self, price):
        self.price = price


class BadUnit(BundleError):
    """A unit is not one that prices can have."""

    def __init__(self, value):
        self.value = value


class BadFactor(BundleError):
    """A factor is not an integer within the bounds."""

    def __init__(self, value):
        self.value = value


class UnlikeGoods(BundleError):
    """Two things that should have the same goods have different ones."""

    def __init__(self, names):
        self.names = names


class NotWanted(BundleError):
    """A bundle is not wanted at the prices."""

    def __init__(self, value):
        self.value = value


class NotHigher(BundleError):
    """A good costs less at prices that should be the higher ones."""

    def __init__(self, name):
        self.name = name


class NotNested(BundleError):
    """A bundle overlaps an earlier one, and neither has all goods of the other."""

    def __init__(self, value):
        self.value = value


class BadSteps(BundleError):
    """The steps of a bundle are of the wrong number, size or order."""

    def __init__(self, steps):
        self.steps = steps


class BadSharing(BundleError):
    """A value is not a sharing of the market."""

    def __init__(self, sharing):
        self.sharing = sharing


class BadBound(BundleError):
    """The bound of a row is below 0."""

    def __init__(self, bound):
        self.bound = bound


class IsSubstitutes(BundleError):
    """The goods of the table are substitutes, so there is no case to show."""


class NothingToUndo(BundleError):
    """The book has no change that can be taken back."""
