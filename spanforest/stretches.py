"""Stretches: tuples (low, high, mark) of whole numbers, and whether two of them meet."""

from spanforest.errors import BadStretch

# Compared with, not counted by figures: Python fails to write out a number that is too long.
_BEYOND = 10 ** 60


def is_whole(value):
    """Tell whether a value of any kind is a whole number of at most sixty figures."""
    # The exact kind is asked, since True and False count as integers for isinstance.
    return type(value) == int and -_BEYOND < value < _BEYOND


def check_ends(low, high):
    """Refuse a low and a high that have no stretch between them."""
    # The messages leave the values out, since these may be of any kind and any length.
    if not is_whole(low):
        raise BadStretch("the low is no whole number of at most sixty figures")
    if not is_whole(high):
        raise BadStretch("the high is no whole number of at most sixty figures")
    if low > high:
        raise BadStretch("the low is greater than the high")


def stretch_of(low, high, mark):
    """Tell the stretch from low to high with this mark."""
    check_ends(low, high)
    if not is_whole(mark):
        raise BadStretch("the mark is no whole number of at most sixty figures")
    return (low, high, mark)


def meet(one, other):
    """Tell whether some whole number is held by both stretches."""
    one_low, one_high, one_mark = one
    other_low, other_high, other_mark = other
    stretch_of(one_low, one_high, one_mark)
    stretch_of(other_low, other_high, other_mark)
    return one_low <= other_high and other_low <= one_high
