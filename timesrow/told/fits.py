"""Told back of a row seen, its bound known: the rules that fit, what settles them, and the number behind the row."""

from timesrow.errors import NoFit
from timesrow.rests import check_number
from timesrow.rules.steps import before, next_of


def times_that_fit(row, bound):
    """The least times of the rules that fit, and the step from one such times to the next; None where none fits."""
    return fits_on_the_way(row, bound)[-1]


def rules_that_fit(row, bound, many):
    """The first so many of the rules that fit, by times."""
    fit = times_that_fit(row, bound)
    if fit is None:
        return []
    if len(row) < 2:
        # No number's next one is seen, so each times goes with each plus.
        return [(place // bound, place % bound, bound) for place in range(min(many, bound * bound))]
    least, step = fit
    end = min(bound, least + step * many)
    return [(times, (row[1] - times * row[0]) % bound, bound) for times in range(least, end, step)]


def settled_by(row, bound):
    """By how many of the numbers, from the first on, just one rule fits; None where the whole row settles none."""
    fits = fits_on_the_way(row, bound)
    if fits[-1] is None or len(row) < 2:
        return None
    steps = [step for least, step in fits]
    return steps.index(bound) + 2 if bound in steps else None


def number_behind(row, bound):
    """The number behind the row where all rules that fit have the same one, else None."""
    # The rules that fit lead on to numbers that stand apart by equal steps: the first two tell of all.
    rules = rules_that_fit(row, bound, 2)
    if len(rules) == 0:
        raise NoFit("no rule of this bound fits the row")
    if len(row) < 2:
        return None
    behind = [next_of(rule, row[-1]) for rule in rules]
    return behind[0] if behind[0] == behind[-1] else None


def fits_on_the_way(row, bound):
    """What fits the first two numbers of a row, the first three, and so on: each time a pair (least, step) or None."""
    for number in row:
        check_number(number, bound)
    gaps = gaps_of(row)
    fits = [(0, 1)]
    for gap, later in zip(gaps, gaps[1:]):
        fits.append(narrowed(fits[-1], gap, later, bound))
    return fits


def gaps_of(row):
    """How much each number of a row is greater than the one ahead of it."""
    return [later - number for number, later in zip(row, row[1:])]


def narrowed(fit, gap, later, bound):
    """What is left of a fit, a pair or None, where times the gap leaves by the bound what the later gap leaves."""
    if fit is None:
        return None
    least, step = fit
    # The times are least + count * step. Their product with the gap goes from the count by a rule, so the counts asked
    # for are those whose next one by this rule is the later gap.
    many, count = before((step * gap % bound, least * gap % bound, bound), later % bound)
    if many == 0:
        return None
    return (least + count * step, bound // many * step)
