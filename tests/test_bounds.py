import itertools
import unittest
from math import gcd

from tests.helpers import Checked, Soon, fitting
from timesrow.rules.steps import row_from
from timesrow.told.bounds import bounds_that_fit, divided_by_all

GREAT = 10 ** 12


def bounds_one_by_one(row, most):
    return tuple(bound for bound in range(1, most + 1) if max(row) < bound and fitting(row, bound))


def divisor_one_by_one(row):
    """The greatest number that divides all, tried one by one; 0 where all are 0."""
    left = []
    for first, second, third, fourth in zip(row, row[1:], row[2:], row[3:]):
        left.append((second - first) * (fourth - third) - (third - second) ** 2)
    most = max([abs(one) for one in left], default=0)
    return max([number for number in range(1, most + 1) if all(one % number == 0 for one in left)], default=0)


class BoundsThatFit(Checked):
    def test_ordinary(self):
        self.assert_told(bounds_that_fit((7, 6, 1, 8), 40), (16, 32))
        self.assert_told(bounds_that_fit((1, 2, 4, 8, 4), 40), (12,))
        self.assert_told(bounds_that_fit((0, 2, 3), 9), (5, 7, 9))
        self.assert_told(bounds_that_fit((0, 1, 1, 2), 40), ())

    def test_each_number_is_below_the_bound(self):
        self.assert_told(bounds_that_fit((3, 1), 6), (4, 5, 6))
        self.assert_told(bounds_that_fit((1, 3), 6), (4, 5, 6))
        self.assert_told(bounds_that_fit((1, 3), 3), ())
        self.assert_told(bounds_that_fit((0, 1, 2, 3), 5), (4, 5))
        self.assert_told(bounds_that_fit((0, 6, 0, 6), 7), (7,))
        self.assert_told(bounds_that_fit((3, GREAT), 2000), ())
        self.assert_told(bounds_that_fit((10 ** 30, 0), 2000), ())

    def test_up_to_the_told_one(self):
        self.assert_told(bounds_that_fit((7, 6, 1, 8), 15), ())
        self.assert_told(bounds_that_fit((7, 6, 1, 8), 16), (16,))
        self.assert_told(bounds_that_fit((7, 6, 1, 8), 31), (16,))
        self.assert_told(bounds_that_fit((7, 6, 1, 8), 32), (16, 32))

    def test_of_0_none(self):
        for row in ((0, 0), (0, 0, 0), (3, 1), (1, 2, 4)):
            self.assert_told(bounds_that_fit(row, 0), ())

    def test_bound_1(self):
        self.assert_told(bounds_that_fit((0, 0), 1), (1,))
        self.assert_told(bounds_that_fit((0, 0, 0, 0, 0), 3), (1, 2, 3))
        self.assert_told(bounds_that_fit((0, 1), 1), ())

    def test_small_rows_one_by_one(self):
        for length, most in ((2, 6), (3, 6), (4, 5), (5, 3)):
            for row in itertools.product(range(most), repeat=length):
                for bound in (0, 1, most, 11):
                    self.assert_told(bounds_that_fit(row, bound), bounds_one_by_one(row, bound))

    def test_rows_of_rules_one_by_one(self):
        for bound in range(1, 13):
            for times in range(bound):
                row = row_from((times, bound // 2, bound), bound // 3, 6)
                self.assert_told(bounds_that_fit(row, 16), bounds_one_by_one(row, 16))

    def test_up_to_2000(self):
        with Soon():
            row = row_from((21, 7, 1000), 3, 60)
            self.assert_told(bounds_that_fit(row, 2000), (1000,))
            self.assert_told(bounds_that_fit(row, 999), ())
            self.assert_told(bounds_that_fit((5,) * 60, 2000), tuple(range(6, 2001)))
            self.assert_told(bounds_that_fit(tuple(range(60)), 2000), tuple(range(60, 2001)))
            self.assert_told(bounds_that_fit((0, 1, 2, 4), 2000), ())
            self.assert_told(bounds_that_fit((1999, 1998, 1999, 1998), 2000), (2000,))

    def test_up_to_2000_by_a_third_number(self):
        # From 0 on by 2: times 2 is to leave what the second gap leaves, so an odd gap wants an odd bound.
        with Soon():
            self.assert_told(bounds_that_fit((0, 2, 5), 2000), tuple(range(7, 2001, 2)))
            self.assert_told(bounds_that_fit((0, 2, 6), 2000), tuple(range(7, 2001)))


class DividedByAll(Checked):
    def test_ordinary(self):
        self.assert_told(divided_by_all((7, 6, 1, 8)), 32)
        self.assert_told(divided_by_all((7, 6, 1, 8, 11)), 32)
        self.assert_told(divided_by_all((7, 6, 1, 8, 11, 10)), 16)
        self.assert_told(divided_by_all((1, 2, 4, 8, 4)), 24)
        self.assert_told(divided_by_all((0, 1, 3, 8)), 1)

    def test_0_of_fewer_than_four(self):
        for row in ((), (0,), (5,), (5, 3), (0, 2, 3), (GREAT, 0, 7)):
            self.assert_told(divided_by_all(row), 0)

    def test_0_where_all_are_0(self):
        for row in ((3, 3, 3, 3), (0, 1, 2, 3, 4), (1, 2, 4, 8, 16), (9, 7, 5, 3, 1), (0,) * 60, (5, 7, 7, 7)):
            self.assert_told(divided_by_all(row), 0)

    def test_one_that_is_0_among_others(self):
        self.assert_told(divided_by_all((0, 1, 2, 3, 7)), 3)
        self.assert_told(divided_by_all((0, 3, 4, 5, 6)), 2)

    def test_small_rows_one_by_one(self):
        for length in range(6):
            for row in itertools.product(range(5 if length < 5 else 4), repeat=length):
                self.assert_told(divided_by_all(row), divisor_one_by_one(row))

    def test_each_bound_that_fits_divides_it(self):
        for length in (2, 3, 4, 5):
            for row in itertools.product(range(4), repeat=length):
                for bound in bounds_that_fit(row, 20):
                    self.assertEqual(divided_by_all(row) % bound, 0)

    def test_great_numbers(self):
        for rule, start in (((6364136223 * 2 + 1, 11, GREAT), 1), ((2, 1, 999999999989), 7), ((5, 3, 2 ** 39), 9)):
            row = row_from(rule, start, 60)
            left = [(second - first) * (fourth - third) - (third - second) ** 2
                    for first, second, third, fourth in zip(row, row[1:], row[2:], row[3:])]
            self.assert_told(divided_by_all(row), gcd(*left))
            self.assertEqual(divided_by_all(row) % rule[2], 0)
            self.assert_told(divided_by_all(row[:4]), abs(left[0]))
        self.assert_told(divided_by_all((0, 10 ** 30, 0, 10 ** 30 + 1)), 10 ** 30)
        self.assert_told(divided_by_all((10 ** 30 + 1, 0, 10 ** 30, 0)), 10 ** 30)


class Interface(Checked):
    def test_names_of_arguments(self):
        self.assert_names({bounds_that_fit: ["row", "most"], divided_by_all: ["row"]})

    def test_called_by_names(self):
        self.assert_told(bounds_that_fit(most=40, row=(7, 6, 1, 8)), (16, 32))
        self.assert_told(divided_by_all(row=(7, 6, 1, 8)), 32)

    def test_the_same_asked_again_is_answered_the_same(self):
        rows = ((7, 6, 1, 8), (0, 2, 3), (3, 3), (1, 2, 4, 8, 4))
        asked = [(bounds_that_fit, (row, 40)) for row in rows] + [(divided_by_all, (row,)) for row in rows]
        self.assert_same_again(asked)

    def test_shorter_rows_raise_no_error(self):
        self.assert_told(bounds_that_fit((3,), 5), (4, 5))
        self.assert_told(bounds_that_fit((), 3), (1, 2, 3))


if __name__ == "__main__":
    unittest.main()
