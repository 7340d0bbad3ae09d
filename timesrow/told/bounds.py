"""Told back of a row seen, its bound unknown: the bounds that fit, and what each of them divides."""

from timesrow.rests import common_divisor, is_number
from timesrow.told.fits import gaps_of, times_that_fit


def bounds_that_fit(row, most):
    """All bounds up to the most one for which a rule fits, rising."""
    return tuple([bound for bound in range(1, most + 1) if fits_some_rule(row, bound)])


def fits_some_rule(row, bound):
    """Whether all numbers of a row are the bound's, and a rule of this bound fits."""
    if not all(is_number(number, bound) for number in row):
        return False
    return times_that_fit(row, bound) is not None


def divided_by_all(row):
    """The greatest number that divides what each four numbers one behind the other leave; 0 where all leave 0."""
    gaps = gaps_of(row)
    divisor = 0
    for first, second, third in zip(gaps, gaps[1:], gaps[2:]):
        divisor = common_divisor(divisor, abs(first * third - second * second))
    return divisor
