import itertools
import unittest
from math import gcd

from tests.helpers import Checked, Soon, fitting
from timesrow.errors import NoAsk, NoBack, NoFit, NoNumber, NoRule, RowError
from timesrow.told.fits import number_behind, rules_that_fit, settled_by, times_that_fit

GREAT = 10 ** 12
PRIME = 999999999989
SQUARE = 999983 ** 2
# Rules of great bounds with a start: the first gap of the row and the bound have no common divisor, some, or all.
GREAT_STARTS = (
    ((GREAT - 1, GREAT - 1, GREAT), 0), ((6364136223 * 2 + 1, 11, GREAT), 1), ((6364136223 * 2 + 1, 11, GREAT), 2),
    ((1, 1, GREAT), 5), ((1, 10 ** 6, GREAT), GREAT - 1), ((1, 0, GREAT), 5), ((3, 0, GREAT), 1), ((3, 0, GREAT), 0),
    ((10, 7, GREAT), 3), ((10, 7, GREAT), 1), ((0, 12345, GREAT), 7), ((0, 12345, GREAT), 12345),
    ((2 ** 20, 3, GREAT), 1), ((5 ** 12, GREAT - 1, GREAT), 2), ((5 ** 12, 5 ** 12, GREAT), 0),
    ((PRIME - 1, 5, PRIME), 1), ((2, 1, PRIME), 0), ((2, 1, PRIME), PRIME - 1), ((999984, 5, SQUARE), 999983),
    ((999984, 999983, SQUARE), 0), ((5, 2 ** 20, 2 ** 39), 0),
    ((5, 2 ** 20 + 1, 2 ** 39), 2 ** 13), ((7, 6, 2 * 3 ** 24), 4))
ALL = (times_that_fit, settled_by, number_behind, lambda row, bound: rules_that_fit(row, bound, 3))


def row_of(rule, start, many):
    row = [start]
    while len(row) < many:
        row.append((rule[0] * row[-1] + rule[1]) % rule[2])
    return tuple(row)


def shared_by_gaps(row, bound):
    """What the bound shares with all gaps of the row but the last: by this share times may differ, and the row fits."""
    return gcd(bound, *[later - number for number, later in zip(row[:-1], row[1:-1])])


def small_rows():
    """All short rows of small bounds, each with its bound."""
    for most, lengths in ((6, (2, 3, 4)), (9, (2, 3)), (12, (3,))):
        for bound in range(1, most + 1):
            for length in lengths:
                for row in itertools.product(range(bound), repeat=length):
                    yield row, bound


def longer_rows():
    """Rows of rules of small bounds, as they are and with each number once made another one."""
    for bound in range(1, 9):
        for times in range(bound):
            for plus, start in ((0, 0), (0, bound - 1), (1 % bound, 0), (bound // 2, bound // 3)):
                row = row_of((times, plus, bound), start, 7)
                yield row, bound
                for place in range(len(row)):
                    yield row[:place] + ((row[place] + 1) % bound,) + row[place + 1:], bound


def great_rows():
    for rule, start in GREAT_STARTS:
        for many in (2, 3, 4, 7, 60):
            yield rule, row_of(rule, start, many)


class TimesThatFit(Checked):
    def test_ordinary(self):
        self.assert_told(times_that_fit((7, 6, 1, 8), 16), (5, 16))
        self.assert_told(times_that_fit((1, 2, 4, 8, 4), 12), (2, 12))
        self.assert_told(times_that_fit((0, 2, 8), 16), (3, 8))
        self.assert_told(times_that_fit((0, 4, 4), 16), (0, 4))
        self.assert_told(times_that_fit((0, 2, 3), 16), None)

    def test_just_one_and_all(self):
        self.assert_told(times_that_fit((0, 1, 0), 9), (8, 9))
        self.assert_told(times_that_fit((3, 8), 9), (0, 1))
        self.assert_told(times_that_fit((3, 3, 3), 9), (0, 1))
        self.assert_told(times_that_fit((0, 0), 1), (0, 1))
        self.assert_told(times_that_fit((0, 0, 0, 0), 1), (0, 1))

    def test_none_where_a_number_has_two_next_ones(self):
        self.assert_told(times_that_fit((3, 3, 4), 9), None)
        self.assert_told(times_that_fit((1, 2, 1, 3), 9), None)

    def test_small_bounds_one_by_one(self):
        for row, bound in itertools.chain(small_rows(), longer_rows()):
            times = [rule[0] for rule in fitting(row, bound)]
            told = times_that_fit(row, bound)
            if times:
                self.assert_told(told, (times[0], bound // len(times)))
                self.assertEqual(list(range(told[0], bound, told[1])), times)
            else:
                self.assertIsNone(told)

    def test_great_bounds(self):
        with Soon():
            for rule, row in great_rows():
                step = rule[2] // shared_by_gaps(row, rule[2])
                self.assert_told(times_that_fit(row, rule[2]), (rule[0] % step, step))

    def test_great_bounds_with_another_last_number(self):
        with Soon():
            for rule, row in great_rows():
                bound = rule[2]
                if len(row) < 3:
                    continue
                # The times that fit without the last number differ by this step, what they lead to by it times the gap.
                step = bound // shared_by_gaps(row[:-1], bound)
                for more in (1, 2, 5, 10 ** 6, 2 ** 12, 999983, bound - 1):
                    other = row[:-1] + ((row[-1] + more) % bound,)
                    still = more % gcd(bound, step * (row[-2] - row[-3])) == 0
                    told = times_that_fit(other, bound)
                    self.assertEqual(told is not None, still)
                    if still:
                        self.assertEqual(told[1], bound // shared_by_gaps(other, bound))
                        self.assertTrue(0 <= told[0] < told[1])
                        plus = (other[1] - told[0] * other[0]) % bound
                        self.assertEqual(row_of((told[0], plus, bound), other[0], len(other)), other)

    def test_none_of_great_bounds(self):
        with Soon():
            self.assert_told(times_that_fit((0, 2, 3), GREAT), None)
            self.assert_told(times_that_fit((5, 5, 6), GREAT), None)
            self.assert_told(times_that_fit((0, 999983, 1), SQUARE), None)
            self.assert_told(times_that_fit((0, 1, 3, 6), PRIME), None)


class RulesThatFit(Checked):
    def test_ordinary(self):
        self.assert_told(rules_that_fit((7, 6, 1, 8), 16, 5), [(5, 3, 16)])
        self.assert_told(rules_that_fit((0, 4, 4), 16, 3), [(0, 4, 16), (4, 4, 16), (8, 4, 16)])
        self.assert_told(rules_that_fit((0, 4, 4), 16, 9), [(0, 4, 16), (4, 4, 16), (8, 4, 16), (12, 4, 16)])
        self.assert_told(rules_that_fit((3, 1), 4, 2), [(0, 1, 4), (1, 2, 4)])

    def test_edges(self):
        self.assert_told(rules_that_fit((0, 0), 1, 0), [])
        self.assert_told(rules_that_fit((0, 0), 1, 1), [(0, 0, 1)])
        self.assert_told(rules_that_fit((0, 0, 0), 1, 7), [(0, 0, 1)])
        self.assert_told(rules_that_fit((7, 6, 1, 8), 16, 0), [])
        self.assert_told(rules_that_fit((0, 2, 3), 16, 0), [])
        self.assert_told(rules_that_fit((0, 2, 3), 16, 9), [])

    def test_small_bounds_one_by_one(self):
        for row, bound in itertools.chain(small_rows(), longer_rows()):
            rules = fitting(row, bound)
            for many in (0, 1, 2, bound - 1, bound, bound + 1, 10 ** 18):
                self.assert_told(rules_that_fit(row, bound, many), rules[:many])

    def test_great_bounds(self):
        with Soon():
            for rule, row in great_rows():
                times, plus, bound = rule
                step = bound // shared_by_gaps(row, bound)
                for many in (0, 1, 2, 60):
                    found = [times % step + place * step for place in range(many)]
                    rules = [(one, (row[1] - one * row[0]) % bound, bound) for one in found if one < bound]
                    self.assert_told(rules_that_fit(row, bound, many), rules)
                    for told in rules:
                        self.assertEqual(row_of(told, row[0], len(row)), row)

    def test_none_fits_a_great_bound(self):
        with Soon():
            self.assert_told(rules_that_fit((0, 2, 3), GREAT, 60), [])
            self.assert_told(rules_that_fit((0, 1, 3, 6), PRIME, 60), [])

    def test_a_told_list_that_is_changed_changes_nothing_told_later(self):
        for row, bound in (((0, 4, 4), 16), ((0, 2, 3), 16), ((0, 0), 1), ((3, 8), GREAT)):
            first = rules_that_fit(row, bound, 4)
            kept = list(first)
            first.append("more")
            first[0] = None
            self.assert_told(rules_that_fit(row, bound, 4), kept)
            first.clear()
            self.assert_told(rules_that_fit(row, bound, 4), kept)


class SettledBy(Checked):
    def test_ordinary(self):
        self.assert_told(settled_by((7, 6, 1, 8), 16), 3)
        self.assert_told(settled_by((7, 6, 1), 16), 3)
        self.assert_told(settled_by((7, 6), 16), None)
        self.assert_told(settled_by((0, 2, 8, 10), 16), None)

    def test_two_settle_it_for_bound_1_alone(self):
        self.assert_told(settled_by((0, 0), 1), 2)
        self.assert_told(settled_by((0, 0, 0, 0), 1), 2)
        self.assert_told(settled_by((0, 0), 2), None)

    def test_none_where_none_fits_the_whole_row(self):
        self.assert_told(settled_by((7, 6, 1, 9), 16), None)
        self.assert_told(settled_by((7, 6, 1, 8, 11, 11), 16), None)
        self.assert_told(settled_by((0, 2, 3), 16), None)

    def test_small_bounds_one_by_one(self):
        for row, bound in itertools.chain(small_rows(), longer_rows()):
            expected = None
            if len(fitting(row, bound)) == 1:
                expected = min(many for many in range(2, len(row) + 1) if len(fitting(row[:many], bound)) == 1)
            self.assert_told(settled_by(row, bound), expected)

    def test_great_bounds(self):
        with Soon():
            for rule, row in great_rows():
                settling = [many for many in range(2, len(row) + 1) if shared_by_gaps(row[:many], rule[2]) == 1]
                self.assert_told(settled_by(row, rule[2]), settling[0] if settling else None)
            self.assert_told(settled_by((0, 1, 3, 6), PRIME), None)
            self.assert_told(settled_by((0, 1, 3, 7), PRIME), 3)


class NumberBehind(Checked):
    def assert_no_fit(self, row, bound):
        with self.assertRaises(NoFit) as caught:
            number_behind(row, bound)
        self.assertIsInstance(caught.exception, RowError)
        self.assertIsInstance(caught.exception, ValueError)
        for other in (NoRule, NoBack, NoAsk, NoNumber):
            self.assertNotIsInstance(caught.exception, other)
        self.assertNotEqual(str(caught.exception), "")

    def test_ordinary(self):
        self.assert_told(number_behind((7, 6, 1), 16), 8)
        self.assert_told(number_behind((7, 6), 16), None)
        self.assert_told(number_behind((0, 2, 8), 16), 10)
        self.assert_told(number_behind((0, 4, 4), 16), 4)
        self.assert_no_fit((0, 2, 3), 16)

    def test_several_rules_with_one_number_behind(self):
        self.assert_told(number_behind((3, 3), 9), 3)
        self.assert_told(number_behind((0, 3, 0), 6), 3)

    def test_several_rules_with_several_numbers_behind(self):
        self.assert_told(number_behind((0, 1), 2), None)
        self.assert_told(number_behind((0, 3), 6), None)

    def test_bound_1(self):
        self.assert_told(number_behind((0, 0), 1), 0)
        self.assert_told(number_behind((0, 0, 0), 1), 0)

    def test_small_bounds_one_by_one(self):
        for row, bound in itertools.chain(small_rows(), longer_rows()):
            behind = {(times * row[-1] + plus) % bound for times, plus, same in fitting(row, bound)}
            if behind:
                self.assert_told(number_behind(row, bound), behind.pop() if len(behind) == 1 else None)
            else:
                self.assert_no_fit(row, bound)

    def test_great_bounds(self):
        with Soon():
            for rule, row in great_rows():
                times, plus, bound = rule
                step = bound // shared_by_gaps(row, bound)
                same = step * (row[-1] - row[0]) % bound == 0
                self.assert_told(number_behind(row, bound), (times * row[-1] + plus) % bound if same else None)

    def test_no_fit_of_great_bounds(self):
        with Soon():
            self.assert_no_fit((0, 2, 3), GREAT)
            self.assert_no_fit((5, 5, 6), GREAT)
            self.assert_no_fit((0, 1, 3, 6), PRIME)


class Refusals(Checked):
    def test_numbers_that_are_none_of_the_bound(self):
        for function in ALL:
            for bound in (1, 2, 16, 2000, GREAT):
                for number in (-1, -bound, bound, bound + 1, 10 ** 19):
                    for place in range(4):
                        row = [0, 0, 0, 0]
                        row[place] = number
                        self.assert_no_number(number, function, tuple(row), bound)

    def test_the_first_one_is_kept(self):
        for function in ALL:
            self.assert_no_number(16, function, (0, 16, -1), 16)
            self.assert_no_number(-1, function, (0, -1, 16), 16)
            self.assert_no_number(17, function, (17, 16), 16)

    def test_ahead_of_no_fit(self):
        for function in ALL:
            self.assert_no_number(16, function, (0, 2, 3, 16), 16)
            self.assert_no_number(-1, function, (3, 3, 4, 4, -1), 9)

    def test_ahead_of_no_rules_asked_for(self):
        self.assert_no_number(16, rules_that_fit, (0, 16), 16, 0)

    def test_truths_are_no_numbers(self):
        for function in ALL:
            self.assert_no_number(True, function, (0, True, 2), 16)
            self.assert_no_number(False, function, (False, 1), 16)

    def test_under_which_classes_it_stands(self):
        for function in ALL:
            with self.assertRaises(NoNumber) as caught:
                function((0, 16), 16)
            self.assertIsInstance(caught.exception, RowError)
            self.assertIsInstance(caught.exception, ValueError)
            self.assertNotIsInstance(caught.exception, NoFit)


class Interface(Checked):
    def test_names_of_arguments(self):
        self.assert_names({times_that_fit: ["row", "bound"], rules_that_fit: ["row", "bound", "many"],
                           settled_by: ["row", "bound"], number_behind: ["row", "bound"]})

    def test_called_by_names(self):
        row = (7, 6, 1)
        self.assert_told(times_that_fit(bound=16, row=row), (5, 16))
        self.assert_told(rules_that_fit(many=2, bound=16, row=row), [(5, 3, 16)])
        self.assert_told(settled_by(bound=16, row=row), 3)
        self.assert_told(number_behind(bound=16, row=row), 8)

    def test_the_same_asked_again_is_answered_the_same(self):
        asked = [(function, (row, 16)) for function in ALL for row in ((7, 6, 1), (0, 4, 4), (3, 3), (0, 2))]
        self.assert_same_again(asked)

    def test_shorter_rows_raise_no_error(self):
        for row in ((), (3,), (0,)):
            for bound in (4, GREAT):
                self.assert_told(times_that_fit(row, bound), (0, 1))
                self.assert_told(rules_that_fit(row, bound, 2), [(0, 0, bound), (0, 1, bound)])
                self.assert_told(settled_by(row, bound), None)
                self.assert_told(number_behind(row, bound), None)
        self.assert_told(rules_that_fit((1,), 2, 9), fitting((1,), 2))
        for row in ((), (0,)):
            self.assert_told(rules_that_fit(row, 1, 9), [(0, 0, 1)])
            self.assert_told(settled_by(row, 1), None)
            self.assert_told(number_behind(row, 1), None)


if __name__ == "__main__":
    unittest.main()
