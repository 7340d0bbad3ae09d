"""Rules that are alike: a renaming of the numbers leads the steps of the one to the steps of the other."""

from timesrow.rests import common_divisor, is_number
from timesrow.rules.steps import before, chained


def renaming(one, other):
    """The first pair (u, v) that renames the one rule's numbers to the other's, or None."""
    # As u has an inverse, u times the one's times and the other's times u agree only where both times do.
    if one[2] != other[2] or one[0] != other[0]:
        return None
    for factor in range(one[2]):
        more = least_more(one, other, factor)
        if more is not None:
            return (factor, more)
    return None


def least_more(one, other, factor):
    """The least v that goes with a factor u as a renaming, or None; both rules have one times and one bound."""
    times, plus, bound = one
    if common_divisor(factor, bound) != 1:
        return None
    # 0 tells all: factor * plus + v is to leave what times * v and the other's plus leave. So by the rule of times - 1
    # and the other's plus, factor * plus is the next one of v.
    return before(((times - 1) % bound, other[1], bound), factor * plus % bound)[1]


def renaming_shown(one, other, pair):
    """Whether a pair (u, v) renames the one rule's numbers to the other's."""
    factor, more = pair
    bound = one[2]
    if other[2] != bound or not is_number(factor, bound) or not is_number(more, bound):
        return False
    if common_divisor(factor, bound) != 1:
        return False
    # A renaming goes as a rule does: a step and then the new name is to be the new name and then the other's step.
    renamed = (factor, more, bound)
    return chained(one, renamed) == chained(renamed, other)
