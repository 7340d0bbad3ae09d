import itertools
import unittest
from math import gcd

from tests.helpers import Checked, Soon, nexts, rules_to
from timesrow.two.alike import renaming, renaming_shown

GREAT = 10 ** 12
PRIME = 999999999989


def is_renaming(one, other, pair):
    """Each number's new name looked at, one by one."""
    u, v = pair
    bound = one[2]
    if gcd(u, bound) != 1:
        return False
    names = [(u * number + v) % bound for number in range(bound)]
    next_one, next_other = nexts(one), nexts(other)
    return all(names[next_one[number]] == next_other[names[number]] for number in range(bound))


def pairs_of(bound):
    return list(itertools.product(range(bound), range(bound)))


def two_rules(most):
    """Each two rules of one bound up to the most one."""
    rules = list(rules_to(most))
    return [(one, other) for one in rules for other in rules if one[2] == other[2]]


class Renaming(Checked):
    def test_ordinary(self):
        # By 3 x: 0, 1, 2 .. by 1 becomes 0, 3, 6 .. by 3.
        self.assert_told(renaming((1, 1, 16), (1, 3, 16)), (3, 0))
        self.assert_told(renaming((5, 3, 16), (5, 7, 16)), (1, 3))
        self.assert_told(renaming((2, 0, 9), (2, 1, 9)), (1, 8))

    def test_a_rule_is_like_itself(self):
        for rule in rules_to(12):
            self.assert_told(renaming(rule, rule), (1 % rule[2], 0))

    def test_bound_1(self):
        self.assert_told(renaming((0, 0, 1), (0, 0, 1)), (0, 0))

    def test_none(self):
        self.assert_told(renaming((1, 1, 16), (1, 2, 16)), None)
        self.assert_told(renaming((1, 0, 16), (1, 8, 16)), None)
        self.assert_told(renaming((5, 3, 16), (13, 3, 16)), None)

    def test_the_first_as_pairs_are_in_order(self):
        # All u fit with some v, so the least u is told, and the least v with it.
        self.assert_told(renaming((3, 0, 8), (3, 0, 8)), (1, 0))
        self.assert_told(renaming((3, 4, 8), (3, 2, 8)), (1, 1))
        # 3 is the first that does: v is any, 0 the least.
        self.assert_told(renaming((1, 2, 8), (1, 6, 8)), (3, 0))

    def test_small_bounds_one_by_one(self):
        for one, other in two_rules(7):
            fitting = [pair for pair in pairs_of(one[2]) if is_renaming(one, other, pair)]
            self.assert_told(renaming(one, other), fitting[0] if fitting else None)

    def test_bounds_with_many_divisors_one_by_one(self):
        for bound in (8, 9, 12, 16, 18):
            for times in range(bound):
                for plus, more in ((0, 1), (0, bound // 2), (1, 3), (2, 4), (3, bound - 1), (bound - 1, bound - 2)):
                    one, other = (times, plus, bound), (times, more, bound)
                    fitting = (pair for pair in pairs_of(bound) if is_renaming(one, other, pair))
                    self.assert_told(renaming(one, other), next(fitting, None))

    def test_rules_of_other_bounds(self):
        self.assert_told(renaming((1, 1, 16), (1, 1, 17)), None)
        self.assert_told(renaming((1, 1, 17), (1, 1, 16)), None)
        self.assert_told(renaming((0, 0, 1), (0, 0, 2)), None)
        self.assert_told(renaming((0, 0, 2), (0, 0, 1)), None)
        with Soon():
            self.assert_told(renaming((1, 1, GREAT), (1, 1, PRIME)), None)

    def test_bounds_to_2000(self):
        with Soon():
            self.assert_told(renaming((1, 1, 2000), (1, 1999, 2000)), (1999, 0))
            self.assert_told(renaming((1, 1, 1999), (1, 1998, 1999)), (1998, 0))
            self.assert_told(renaming((1, 1, 2000), (1, 2, 2000)), None)
            self.assert_told(renaming((1, 0, 2000), (1, 1, 2000)), None)
            self.assert_told(renaming((3, 0, 1999), (3, 1998, 1999)), (1, 1000))
            self.assertTrue(is_renaming((3, 0, 1999), (3, 1998, 1999), (1, 1000)))

    def test_told_is_a_renaming_of_bounds_to_2000(self):
        for one, other in (((21, 7, 2000), (21, 47, 2000)), ((11, 30, 2000), (11, 70, 2000)),
                           ((501, 4, 2000), (501, 12, 2000)), ((7, 5, 1998), (7, 1, 1998))):
            told = renaming(one, other)
            self.assertTrue(is_renaming(one, other, told))
            # None ahead of it: of each lesser u, and of this one, all v are gone through.
            for pair in itertools.product(range(told[0] + 1), range(one[2])):
                if pair < told and gcd(pair[0], one[2]) == 1:
                    self.assertNotEqual((pair[0] * one[1] + pair[1] - other[0] * pair[1] - other[1]) % one[2], 0)


class RenamingShown(Checked):
    def test_ordinary(self):
        self.assert_told(renaming_shown((1, 1, 16), (1, 3, 16), (3, 0)), True)
        self.assert_told(renaming_shown((1, 1, 16), (1, 3, 16), (5, 0)), False)
        self.assert_told(renaming_shown((1, 1, 16), (1, 3, 16), (0, 3)), False)

    def test_the_first_or_not(self):
        for more in range(16):
            self.assert_told(renaming_shown((1, 1, 16), (1, 3, 16), (3, more)), True)
        self.assert_told(renaming_shown((3, 0, 8), (3, 0, 8), (1, 4)), True)
        self.assert_told(renaming_shown((3, 0, 8), (3, 0, 8), (7, 0)), True)

    def test_u_has_no_common_divisor_with_the_bound(self):
        # All new names are 0, and both rules lead from 0 to 0: but it is no renaming.
        self.assert_told(renaming_shown((3, 0, 8), (3, 0, 8), (0, 0)), False)
        self.assert_told(renaming_shown((3, 0, 8), (3, 0, 8), (2, 0)), False)
        self.assert_told(renaming_shown((3, 0, 8), (7, 0, 8), (2, 0)), False)
        self.assert_told(renaming_shown((3, 0, 8), (7, 0, 8), (4, 0)), False)

    def test_bound_1(self):
        self.assert_told(renaming_shown((0, 0, 1), (0, 0, 1), (0, 0)), True)

    def test_small_bounds_one_by_one(self):
        for one, other in two_rules(5):
            for pair in pairs_of(one[2]):
                self.assert_told(renaming_shown(one, other, pair), is_renaming(one, other, pair))
        for bound in (6, 8, 9):
            for times, plus, more in itertools.product(range(bound), (0, 1, 3), (0, 2, bound - 3)):
                one, other = (times, plus, bound), (times, more, bound)
                for pair in pairs_of(bound):
                    self.assert_told(renaming_shown(one, other, pair), is_renaming(one, other, pair))

    def test_what_is_told_is_one(self):
        for one, other in two_rules(6):
            told = renaming(one, other)
            shown = [pair for pair in pairs_of(one[2]) if renaming_shown(one, other, pair)]
            self.assertEqual(told, shown[0] if shown else None)

    def test_rules_of_other_bounds(self):
        for one, other in (((1, 1, 16), (1, 1, 17)), ((1, 1, 17), (1, 1, 16)), ((0, 0, 1), (0, 0, 2)),
                           ((0, 0, 2), (0, 0, 1)), ((1, 1, GREAT), (1, 1, PRIME))):
            for pair in ((0, 0), (1, 0), (1, 1)):
                self.assert_told(renaming_shown(one, other, pair), False)

    def test_great_bounds(self):
        with Soon():
            self.assert_told(renaming_shown((1, 1, GREAT), (1, GREAT - 1, GREAT), (GREAT - 1, 5)), True)
            self.assert_told(renaming_shown((1, 1, GREAT), (1, GREAT - 1, GREAT), (GREAT - 2, 5)), False)
            self.assert_told(renaming_shown((1, 1, GREAT), (1, GREAT - 1, GREAT), (GREAT - 3, 5)), False)
            # From (5, 11): by u 7 and v 13 the plus is to be 7 * 11 + 13 - 5 * 13.
            self.assert_told(renaming_shown((5, 11, PRIME), (5, 25, PRIME), (7, 13)), True)
            self.assert_told(renaming_shown((5, 11, PRIME), (5, 25, PRIME), (7, 14)), False)
            self.assert_told(renaming_shown((5, 11, PRIME), (6, 25, PRIME), (7, 13)), False)
            self.assert_told(renaming_shown((5, 11, GREAT), (5, 25, GREAT), (7, 13)), True)

    def test_pairs_that_are_no_numbers_of_the_bound_raise_no_error(self):
        for pair in ((17, 0), (1, 16), (-1, 0), (1, -1), (GREAT, GREAT)):
            self.assert_told(renaming_shown((1, 1, 16), (1, 1, 16), pair), False)


class Interface(Checked):
    def test_names_of_arguments(self):
        self.assert_names({renaming: ["one", "other"], renaming_shown: ["one", "other", "pair"]})

    def test_called_by_names(self):
        self.assert_told(renaming(other=(2, 1, 9), one=(2, 0, 9)), (1, 8))
        self.assert_told(renaming_shown(pair=(1, 8), other=(2, 1, 9), one=(2, 0, 9)), True)
        self.assert_told(renaming_shown(pair=(1, 8), other=(2, 0, 9), one=(2, 1, 9)), False)

    def test_the_same_asked_again_is_answered_the_same(self):
        self.assert_same_again([(renaming, ((2, 0, 9), (2, 1, 9))), (renaming, ((1, 1, 16), (1, 2, 16))),
                                (renaming_shown, ((2, 0, 9), (2, 1, 9), (1, 8))),
                                (renaming_shown, ((2, 0, 9), (2, 1, 9), (1, 7)))])


if __name__ == "__main__":
    unittest.main()
