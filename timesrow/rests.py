"""Rests by a bound: which numbers they are, their common divisors and their inverses."""

from timesrow.errors import NoNumber


def is_whole(thing):
    """Whether a thing is a whole number."""
    return isinstance(thing, int) and not isinstance(thing, bool)


def is_number(thing, bound):
    """Whether a thing is a number from 0 below the bound."""
    return is_whole(thing) and 0 <= thing < bound


def check_number(number, bound):
    """Refuse a number that is not from 0 below the bound."""
    if not is_number(number, bound):
        raise NoNumber(number)


def common_divisor(one, other):
    """The greatest common divisor of two numbers from 0 on; of 0 and another number, that one."""
    while other != 0:
        one, other = other, one % other
    return one


def inverse(number, bound):
    """The rest whose product with the number leaves by the bound what 1 leaves.

    Number and bound have no common divisor but 1.
    """
    high, low = bound, number % bound
    # It holds throughout that a factor's product with the number leaves the rest that high, or low, leaves.
    high_factor, low_factor = 0, 1
    while low != 0:
        goes_in = high // low
        high, low = low, high - goes_in * low
        high_factor, low_factor = low_factor, high_factor - goes_in * low_factor
    return high_factor % bound
