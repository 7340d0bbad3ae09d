import itertools
import unittest

from tests.helpers import Checked, Soon, fitting, nexts, rules_to, walk
from timesrow.errors import NoAsk, NoBack, NoFit, NoNumber, NoRule, RowError
from timesrow.two.woven import round_of_two, summed_by, unwoven, woven

GREAT = 10 ** 12
PRIME = 999999999989
# Pairs of rules of one great bound, each with a start.
GREAT_PAIRS = (
    ((6364136223 * 2 + 1, 11, GREAT), 1, (GREAT - 1, GREAT - 1, GREAT), GREAT - 1),
    ((0, 0, GREAT), 5, (1, 1, GREAT), 0), ((10 ** 6, 7, GREAT), 3, (10 ** 6, GREAT - 1, GREAT), 0),
    ((2, 1, PRIME), PRIME - 1, (PRIME - 1, 5, PRIME), 1), ((PRIME - 1, PRIME - 1, PRIME), 7, (0, 12, PRIME), 12))


def next_one(rule, number):
    return (rule[0] * number + rule[1]) % rule[2]


def woven_one_by_one(one, start, other, begin, many):
    row = []
    while len(row) < many:
        row.append(start)
        start = next_one(one, start)
        if len(row) < many:
            row.append(begin)
            begin = next_one(other, begin)
    return tuple(row)


def sums(one, start, other, begin, many):
    row = []
    for place in range(many):
        row.append((start + begin) % one[2])
        start, begin = next_one(one, start), next_one(other, begin)
    return row


def fit_one_by_one(row, bound):
    times = [rule[0] for rule in fitting(row, bound)]
    return (times[0], bound // len(times)) if times else None


def pairs_one_by_one(one, start, other, begin):
    """Tail and length of the row of pairs, gone through pair by pair."""
    places = {}
    pair = (start, begin)
    while pair not in places:
        places[pair] = len(places)
        pair = (next_one(one, pair[0]), next_one(other, pair[1]))
    return (places[pair], len(places) - places[pair])


def two_rules(most):
    """Each two rules of one bound up to the most one."""
    rules = list(rules_to(most))
    return [(one, other) for one in rules for other in rules if one[2] == other[2]]


class Woven(Checked):
    def test_ordinary(self):
        self.assert_told(woven((5, 3, 16), 7, (2, 0, 12), 1, 7), (7, 1, 6, 2, 1, 4, 8))
        self.assert_told(woven((5, 3, 16), 7, (2, 0, 12), 1, 6), (7, 1, 6, 2, 1, 4))

    def test_the_first_rows_start_is_first(self):
        self.assert_told(woven((5, 3, 16), 7, (2, 0, 12), 1, 1), (7,))
        self.assert_told(woven((2, 0, 12), 1, (5, 3, 16), 7, 1), (1,))
        self.assert_told(woven((2, 0, 12), 1, (5, 3, 16), 7, 2), (1, 7))

    def test_from_0_on(self):
        self.assert_told(woven((5, 3, 16), 7, (2, 0, 12), 1, 0), ())
        self.assert_told(woven((0, 0, 1), 0, (0, 0, 1), 0, 0), ())
        self.assert_told(woven((0, 0, 1), 0, (0, 0, 1), 0, 3), (0, 0, 0))

    def test_small_bounds_one_by_one(self):
        rules = list(rules_to(4))
        for one, other in itertools.product(rules, rules):
            for start, begin in itertools.product(range(one[2]), range(other[2])):
                for many in (0, 1, 2, 5, 8):
                    self.assert_told(woven(one, start, other, begin, many),
                                     woven_one_by_one(one, start, other, begin, many))

    def test_great_bounds(self):
        with Soon():
            for one, start, other, begin in GREAT_PAIRS:
                for many in (1, 2, 59, 60):
                    for second in (other, (3, 1, 7)):
                        told = woven(one, start, second, begin % second[2], many)
                        self.assert_told(told, woven_one_by_one(one, start, second, begin % second[2], many))

    def test_numbers_that_are_none(self):
        for many in (0, 1, 2, 5):
            for wrong in (-1, 16, 17, GREAT, -GREAT, True, False):
                self.assert_no_number(wrong, woven, (5, 3, 16), wrong, (2, 0, 12), 1, many)
            for wrong in (-1, 12, 15, GREAT, True, False):
                self.assert_no_number(wrong, woven, (5, 3, 16), 7, (2, 0, 12), wrong, many)

    def test_start_ahead_of_begin(self):
        for many in (0, 1, 4):
            self.assert_no_number(16, woven, (5, 3, 16), 16, (2, 0, 12), 12, many)
            self.assert_no_number(-1, woven, (5, 3, 16), -1, (2, 0, 12), -2, many)
            # Each by its own rule.
            self.assert_no_number(13, woven, (5, 3, 16), 13, (2, 0, 12), 13, many)
            self.assert_no_number(13, woven, (2, 0, 12), 13, (5, 3, 16), 16, many)


class Unwoven(Checked):
    def test_ordinary(self):
        self.assert_told(unwoven((7, 1, 6, 2, 1, 4, 8), 16, 12), ((5, 16), (2, 12)))
        self.assert_told(unwoven((7, 1, 6, 2, 1), 16, 12), ((5, 16), (0, 1)))
        self.assert_told(unwoven((7, 1, 6, 2), 16, 12), ((0, 1), (0, 1)))
        self.assert_told(unwoven((0, 3, 4, 3, 4, 3), 16, 9), ((0, 4), (0, 1)))

    def test_none_for_the_row_that_no_rule_fits(self):
        self.assert_told(unwoven((0, 1, 2, 2, 3, 3), 16, 12), (None, (1, 12)))
        self.assert_told(unwoven((1, 0, 2, 2, 3, 3), 12, 16), ((1, 12), None))
        self.assert_told(unwoven((0, 0, 2, 2, 3, 3), 16, 16), (None, None))

    def test_small_bounds_one_by_one(self):
        for bound, other_bound in itertools.product(range(1, 5), range(1, 5)):
            told = {}
            for length in (4, 5, 6):
                kinds = [range(bound), range(other_bound)] * 3
                for row in itertools.product(*kinds[:length]):
                    for half, its_bound in ((row[::2], bound), (row[1::2], other_bound)):
                        if (half, its_bound) not in told:
                            told[half, its_bound] = fit_one_by_one(half, its_bound)
                    expected = (told[row[::2], bound], told[row[1::2], other_bound])
                    self.assert_told(unwoven(row, bound, other_bound), expected)

    def test_what_is_woven_is_told_back(self):
        for one, other in ((one, other) for one in rules_to(7, 5) for other in ((3, 1, 4), (2, 2, 9), (0, 0, 1))):
            row = woven(one, 1, other, 0, 13)
            for pair, rule in zip(unwoven(row, one[2], other[2]), (one, other)):
                self.assertEqual(rule[0] % pair[1], pair[0])

    def test_great_bounds(self):
        with Soon():
            row = woven((6364136223 * 2 + 1, 11, GREAT), 1, (2, 1, PRIME), 0, 60)
            self.assert_told(unwoven(row, GREAT, PRIME), ((6364136223 * 2 + 1, GREAT), (2, PRIME)))
            # The first gap of the first row shares 2 ** 12 with the bound.
            row = woven((3, 2 ** 12, GREAT), 0, (5, 1, GREAT), 0, 60)
            self.assert_told(unwoven(row, GREAT, GREAT), ((3, 5 ** 12), (5, GREAT)))
            self.assert_told(unwoven((0, 0, 1, GREAT - 1, 0, 0), GREAT, GREAT), ((GREAT - 1, GREAT), (GREAT - 1, GREAT)))
            self.assert_told(unwoven((0, 5, 2, 5, 3, 6), GREAT, GREAT), (None, None))
            self.assert_told(unwoven((0, 0) * 30, GREAT, 1), ((0, 1), (0, 1)))

    def test_the_first_number_that_is_none(self):
        self.assert_no_number(16, unwoven, (16, 1, 6, 2), 16, 12)
        self.assert_no_number(12, unwoven, (12, 12, 6, 2), 16, 12)
        self.assert_no_number(15, unwoven, (15, 15, 15, 2), 16, 12)
        self.assert_no_number(-1, unwoven, (7, 1, 6, -1), 16, 12)
        self.assert_no_number(-7, unwoven, (7, 1, -7, 2), 16, 12)
        for wrong in (True, False):
            self.assert_no_number(wrong, unwoven, (7, wrong, 6, 2), 16, 12)

    def test_of_several_the_first_as_they_are_woven(self):
        self.assert_no_number(20, unwoven, (7, 20, 30, 2), 16, 12)
        self.assert_no_number(30, unwoven, (30, 20, 6, 2), 16, 12)
        self.assert_no_number(40, unwoven, (7, 1, 6, 40, 50, 60), 16, 12)
        self.assert_no_number(50, unwoven, (7, 1, 50, 40, 51, 60), 16, 12)

    def test_no_number_where_none_would_fit_too(self):
        self.assert_no_number(12, unwoven, (3, 1, 3, 1, 4, 12), 16, 12)

    def test_places_one_by_one(self):
        fine = (3, 3, 3, 3, 3, 3)
        for place in range(len(fine)):
            bounds = (4, 9) if place % 2 == 0 else (9, 4)
            # 5 is a number of the one bound and none of the other one.
            row = fine[:place] + (5,) + fine[place + 1:]
            self.assert_no_number(5, unwoven, row, *bounds)
            unwoven(row, *bounds[::-1])

    def test_shorter_rows_raise_no_error(self):
        for row in ((), (3,), (3, 1), (3, 1, 2)):
            self.assertEqual(len(unwoven(row, 16, 12)), 2)


class SummedBy(Checked):
    def test_ordinary(self):
        # 7 + 1, 6 + 2, 1 + 4, 8 + 8 by 16.
        self.assert_told(summed_by((5, 3, 16), 7, (2, 0, 16), 1), (7, 10, 13))
        self.assertEqual([(7 * 8 - 10 * 8 + 13) % 16, (7 * 5 - 10 * 8 + 13) % 16], [5, 0])

    def test_rests_by_the_bound(self):
        self.assert_told(summed_by((15, 0, 16), 0, (15, 0, 16), 0), (14, 1, 0))
        self.assert_told(summed_by((8, 15, 16), 0, (8, 15, 16), 0), (0, 0, 14))
        self.assert_told(summed_by((0, 0, 1), 0, (0, 0, 1), 0), (0, 0, 0))

    def test_small_bounds_one_by_one(self):
        for one, other in two_rules(5):
            bound = one[2]
            for start, begin in itertools.product(range(bound), range(bound)):
                told = summed_by(one, start, other, begin)
                self.assertEqual([type(part) for part in told], [int] * 3)
                p, q, r = told
                self.assertEqual((p, q), ((one[0] + other[0]) % bound, one[0] * other[0] % bound))
                row = sums(one, start, other, begin, 8)
                # Of all rests just this one holds at each place.
                holding = [rest for rest in range(bound)
                           if all((p * second - q * first + rest) % bound == third
                                  for first, second, third in zip(row, row[1:], row[2:]))]
                self.assertEqual(holding, [r])

    def test_great_bounds(self):
        with Soon():
            for one, start, other, begin in GREAT_PAIRS:
                bound = one[2]
                p, q, r = summed_by(one, start, other, begin)
                self.assertEqual((p, q), ((one[0] + other[0]) % bound, one[0] * other[0] % bound))
                self.assertTrue(0 <= r < bound)
                row = sums(one, start, other, begin, 60)
                for first, second, third in zip(row, row[1:], row[2:]):
                    self.assertEqual((p * second - q * first + r) % bound, third)


class RoundOfTwo(Checked):
    def test_ordinary(self):
        self.assert_told(round_of_two((2, 0, 12), 1, (1, 1, 12), 0), (2, 12))
        self.assert_told(round_of_two((1, 2, 12), 0, (1, 3, 12), 0), (0, 12))
        self.assert_told(round_of_two((1, 4, 12), 0, (1, 6, 12), 0), (0, 6))
        self.assert_told(round_of_two((0, 5, 12), 0, (2, 0, 12), 1), (2, 2))
        self.assert_told(round_of_two((0, 0, 1), 0, (0, 0, 1), 0), (0, 1))

    def test_small_bounds_one_by_one(self):
        for one, other in two_rules(5):
            for start, begin in itertools.product(range(one[2]), range(one[2])):
                self.assert_told(round_of_two(one, start, other, begin), pairs_one_by_one(one, start, other, begin))

    def test_the_greater_tail_and_the_least_common_length(self):
        for bound in (12, 16, 18, 36):
            some = [(times, plus, bound) for times in range(0, bound, 5) for plus in (0, 1, bound // 2)]
            for one, other in itertools.product(some, some):
                self.assert_told(round_of_two(one, 1, other, bound - 1), pairs_one_by_one(one, 1, other, bound - 1))

    def test_bounds_to_2000(self):
        with Soon():
            self.assert_told(round_of_two((1, 1, 2000), 5, (1, 1999, 2000), 7), (0, 2000))
            # 1999 is prime and 3 leads through all but 0: 1998 numbers, beside 1999.
            self.assert_told(round_of_two((3, 0, 1999), 1, (1, 1, 1999), 0), (0, 1998 * 1999))
            self.assert_told(round_of_two((2, 0, 1024), 1, (1, 1, 1024), 0), (10, 1024))
            for one, other in (((7, 3, 2000), (10, 1, 2000)), ((2, 1, 1998), (5, 0, 1998)), ((0, 1, 1999), (6, 0, 1999))):
                self.assert_told(round_of_two(one, 1, other, 2), self.by_walks(one, 1, other, 2))

    def by_walks(self, one, start, other, begin):
        row, tail = walk(nexts(one), start)
        other_row, other_tail = walk(nexts(other), begin)
        length, other_length = len(row) - tail, len(other_row) - other_tail
        together = length
        while together % other_length != 0:
            together += length
        return (max(tail, other_tail), together)


class RefusalsOfTwo(Checked):
    def test_numbers_that_are_none(self):
        for function in (summed_by, round_of_two):
            for wrong in (-1, 12, 13, GREAT, -GREAT, True, False):
                self.assert_no_number(wrong, function, (2, 0, 12), wrong, (1, 1, 12), 3)
                self.assert_no_number(wrong, function, (2, 0, 12), 3, (1, 1, 12), wrong)

    def test_start_ahead_of_begin(self):
        for function in (summed_by, round_of_two):
            self.assert_no_number(12, function, (2, 0, 12), 12, (1, 1, 12), 13)
            self.assert_no_number(-2, function, (2, 0, 12), -2, (1, 1, 12), -1)

    def test_rules_of_two_bounds(self):
        for function in (summed_by, round_of_two):
            for one, other in (((2, 0, 12), (2, 0, 13)), ((2, 0, 13), (2, 0, 12)), ((0, 0, 1), (0, 0, 2)),
                               ((2, 0, 12), (2, 0, 24))):
                with self.assertRaises(NoRule):
                    function(one, 0, other, 0)

    def test_no_number_ahead_of_no_rule_each_by_its_own_rule(self):
        for function in (summed_by, round_of_two):
            self.assert_no_number(12, function, (2, 0, 12), 12, (1, 1, 16), 12)
            self.assert_no_number(16, function, (2, 0, 12), 11, (1, 1, 16), 16)
            self.assert_no_number(12, function, (1, 1, 16), 12, (2, 0, 12), 12)
            self.assert_no_number(16, function, (1, 1, 16), 16, (2, 0, 12), 12)
            with self.assertRaises(NoRule):
                function((2, 0, 12), 11, (1, 1, 16), 15)
            with self.assertRaises(NoRule):
                function((1, 1, 16), 15, (2, 0, 12), 11)

    def test_under_which_classes_they_stand(self):
        for handed, kind in ((((2, 0, 12), 12, (1, 1, 16), 0), NoNumber), (((2, 0, 12), 1, (1, 1, 16), 0), NoRule)):
            for function in (summed_by, round_of_two):
                with self.assertRaises(RowError) as caught:
                    function(*handed)
                self.assertIsInstance(caught.exception, ValueError)
                for other in (NoNumber, NoRule, NoBack, NoFit, NoAsk):
                    self.assertEqual(isinstance(caught.exception, other), other == kind)

    def test_great_bounds_are_refused_alike(self):
        with Soon():
            with self.assertRaises(NoRule):
                summed_by((1, 1, GREAT), 0, (1, 1, PRIME), 0)
            with self.assertRaises(NoRule):
                round_of_two((1, 1, GREAT), 0, (1, 1, PRIME), 0)
            self.assert_no_number(GREAT, summed_by, (1, 1, GREAT), GREAT, (1, 1, GREAT), 0)
            self.assert_no_number(PRIME, summed_by, (1, 1, GREAT), PRIME, (1, 1, PRIME), PRIME)


class Interface(Checked):
    def test_names_of_arguments(self):
        self.assert_names({woven: ["one", "start", "other", "begin", "many"],
                           unwoven: ["row", "bound", "other_bound"],
                           summed_by: ["one", "start", "other", "begin"],
                           round_of_two: ["one", "start", "other", "begin"]})

    def test_called_by_names(self):
        self.assert_told(woven(many=3, begin=1, other=(2, 0, 12), start=7, one=(5, 3, 16)), (7, 1, 6))
        self.assert_told(unwoven(other_bound=12, bound=16, row=(7, 1, 6, 2, 1, 4)), ((5, 16), (2, 12)))
        self.assert_told(summed_by(begin=1, other=(2, 0, 16), start=7, one=(5, 3, 16)), (7, 10, 13))
        self.assert_told(round_of_two(begin=0, other=(1, 1, 12), start=1, one=(2, 0, 12)), (2, 12))

    def test_the_same_asked_again_is_answered_the_same(self):
        pair = ((2, 0, 12), 1, (1, 1, 12), 0)
        self.assert_same_again([(woven, pair + (5,)), (unwoven, ((7, 1, 6, 2, 1, 4), 16, 12)), (summed_by, pair),
                                (round_of_two, pair), (summed_by, pair[2:] + pair[:2]), (woven, pair + (0,))])


if __name__ == "__main__":
    unittest.main()
