"""Two rows at once: woven and told back, the row of their sums, and how the pair of them comes round."""

from timesrow.errors import NoRule
from timesrow.rests import check_number, common_divisor
from timesrow.rules.rounds import round_from
from timesrow.rules.steps import row_from
from timesrow.told.fits import times_that_fit


def woven(one, start, other, begin, many):
    """The first so many numbers of two rows by turns, the first row's start first."""
    turns = (many + 1) // 2
    first = row_from(one, start, turns)
    second = row_from(other, begin, turns)
    row = [number for pair in zip(first, second) for number in pair]
    return tuple(row[:many])


def unwoven(row, bound, other_bound):
    """What times_that_fit tells of both rows that are woven in a row, a pair."""
    # Looked at as they are woven: each row by itself would miss which of both has the first wrong number.
    for place, number in enumerate(row):
        check_number(number, bound if place % 2 == 0 else other_bound)
    return (times_that_fit(row[::2], bound), times_that_fit(row[1::2], other_bound))


def check_two(one, start, other, begin):
    """Refuse starts that are none of their rule's numbers, then rules of two bounds."""
    check_number(start, one[2])
    check_number(begin, other[2])
    if one[2] != other[2]:
        raise NoRule("the two rules have not the same bound")


def summed_by(one, start, other, begin):
    """The rests (p, q, r) by which the row of both rows' sums goes on from two numbers to the next one."""
    check_two(one, start, other, begin)
    times, plus, bound = one
    other_times, other_plus = other[0], other[1]
    # Of the first row alone, p times a number less q times the one ahead of it is the next number and
    # (other_times - 1) * plus; of the second row likewise. What is left is the same for all starts.
    rest = (plus * (1 - other_times) + other_plus * (1 - times)) % bound
    return ((times + other_times) % bound, times * other_times % bound, rest)


def round_of_two(one, start, other, begin):
    """How many pairs of both rows' numbers stand ahead of the round of pairs, and how many are in it."""
    check_two(one, start, other, begin)
    tail, length = round_from(one, start)
    other_tail, other_length = round_from(other, begin)
    return (max(tail, other_tail), length * other_length // common_divisor(length, other_length))
