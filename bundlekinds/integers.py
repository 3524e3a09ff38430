"""Integers within bounds."""


def is_whole(value, least, most=None):
    """Tell whether the value, which may be of any kind, is an integer from the least one on, up to the most one."""
    # True and False would pass as 1 and 0, but they are no integers here.
    if isinstance(value, bool) or not isinstance(value, int):
        return False
    return value >= least and (most is None or value <= most)
