import itertools
import unittest

from tests.helpers import Checked, Soon, rules_to
from timesrow.errors import NoFit, NoNumber, RowError
from timesrow.told.parts import always_settled, parts_from, rules_by_parts, settled_at, starts_that_fit

GREAT = 10 ** 12
OF_2000 = ((0, 0, 2000), (1, 0, 2000), (1, 1, 2000), (21, 7, 2000), (3, 1, 2000), (10, 5, 2000), (1998, 0, 1999))


def parts_one_by_one(rule, start, many, part):
    times, plus, bound = rule
    parts = []
    for place in range(many):
        parts.append(start // part)
        start = (times * start + plus) % bound
    return tuple(parts)


def seen_from_all(rule, many, part):
    return [parts_one_by_one(rule, start, many, part) for start in range(rule[2])]


def enough(rule):
    """So many parts tell apart all that are ever told apart: each one more tells two more apart, or none will."""
    return rule[2]


def settled_one_by_one(rule, start, part):
    for many in range(enough(rule) + 1):
        seen = seen_from_all(rule, many, part)
        if seen.count(seen[start]) == 1:
            return many
    return None


def always_one_by_one(rule, part):
    for many in range(enough(rule) + 1):
        if len(set(seen_from_all(rule, many, part))) == rule[2]:
            return many
    return None


def rules_one_by_one(bound, seen, part):
    found = [(times, plus, start) for times in range(bound) for plus in range(bound) for start in range(bound)
             if parts_one_by_one((times, plus, bound), start, len(seen), part) == seen]
    return (len(found), min(found, default=None))


class PartsFrom(Checked):
    def test_ordinary(self):
        self.assert_told(parts_from((5, 3, 16), 7, 6, 4), (1, 1, 0, 2, 2, 2))
        self.assert_told(parts_from((5, 3, 16), 7, 6, 1), (7, 6, 1, 8, 11, 10))
        self.assert_told(parts_from((5, 3, 16), 7, 6, 3), (2, 2, 0, 2, 3, 3))
        self.assert_told(parts_from((5, 3, 16), 7, 6, 16), (0, 0, 0, 0, 0, 0))

    def test_edges(self):
        self.assert_told(parts_from((5, 3, 16), 7, 0, 4), ())
        self.assert_told(parts_from((5, 3, 16), 7, 1, 7), (1,))
        self.assert_told(parts_from((5, 3, 16), 7, 1, 8), (0,))
        self.assert_told(parts_from((5, 3, 16), 7, 2, 10 ** 30), (0, 0))
        self.assert_told(parts_from((0, 0, 1), 0, 3, 1), (0, 0, 0))

    def test_small_rules_one_by_one(self):
        for rule in rules_to(7):
            for start, part, many in itertools.product(range(rule[2]), (1, 2, 3, rule[2]), (0, 1, 2, 9)):
                self.assert_told(parts_from(rule, start, many, part), parts_one_by_one(rule, start, many, part))

    def test_bounds_of_2000(self):
        for rule in OF_2000:
            for start, part in itertools.product((0, 777, rule[2] - 1), (1, 7, 1000, 1999)):
                self.assert_told(parts_from(rule, start, 60, part), parts_one_by_one(rule, start, 60, part))

    def test_great_bounds(self):
        self.assert_told(parts_from((3, 1, GREAT), GREAT - 1, 3, 10 ** 6), (10 ** 6 - 1, 10 ** 6 - 1, 10 ** 6 - 1))
        self.assert_told(parts_from((10, 7, GREAT), 10 ** 11 - 1, 3, GREAT - 3), (0, 1, 0))

    def test_refuses_numbers_that_are_none_of_the_rule(self):
        for rule in ((0, 0, 1), (5, 3, 16), (1, 1, 2000)):
            for number in (-1, -rule[2], rule[2], rule[2] + 1, 10 ** 19):
                for many in (0, 1, 5):
                    self.assert_no_number(number, parts_from, rule, number, many, 4)
        self.assert_no_number(True, parts_from, (5, 3, 16), True, 5, 4)


class StartsThatFit(Checked):
    def test_ordinary(self):
        self.assert_told(starts_that_fit((5, 3, 16), (1, 1, 0), 4), (7,))
        self.assert_told(starts_that_fit((5, 3, 16), (1,), 4), (4, 5, 6, 7))
        self.assert_told(starts_that_fit((5, 3, 16), (1, 1), 4), (4, 7))
        self.assert_told(starts_that_fit((5, 3, 16), (7,), 1), (7,))
        self.assert_told(starts_that_fit((5, 3, 16), (7, 7), 1), ())

    def test_any_whole_numbers(self):
        for seen in ((-1,), (4,), (10 ** 30,), (1, -1), (1, 1, 4), (-(10 ** 30), 0)):
            self.assert_told(starts_that_fit((5, 3, 16), seen, 4), ())

    def test_edges(self):
        self.assert_told(starts_that_fit((0, 0, 1), (0,), 1), (0,))
        self.assert_told(starts_that_fit((0, 0, 1), (1,), 1), ())
        self.assert_told(starts_that_fit((1, 0, 4), (0, 0, 0), 4), (0, 1, 2, 3))
        self.assert_told(starts_that_fit((0, 3, 4), (1, 3, 3), 1), (1,))

    def test_small_rules_one_by_one(self):
        for rule in rules_to(6):
            for part in (1, 2, 3):
                most = (rule[2] - 1) // part + 2
                for many in (1, 2, 3):
                    found = {}
                    for start in range(rule[2]):
                        found.setdefault(parts_one_by_one(rule, start, many, part), []).append(start)
                    for seen in itertools.product(range(-1, most), repeat=many):
                        self.assert_told(starts_that_fit(rule, seen, part), tuple(found.get(seen, ())))

    def test_bounds_of_2000(self):
        for rule, part in itertools.product(OF_2000, (1, 7, 1000, 2000)):
            seen = seen_from_all(rule, 60, part)
            for many in (1, 2, 60):
                found = [start for start in range(rule[2]) if seen[start][:many] == seen[777][:many]]
                with Soon():
                    told = starts_that_fit(rule, seen[777][:many], part)
                self.assert_told(told, tuple(found))

    def test_raises_no_error_of_no_parts_seen(self):
        self.assert_told(starts_that_fit((5, 3, 4), (), 2), (0, 1, 2, 3))


class SettledAt(Checked):
    def test_ordinary(self):
        self.assert_told(settled_at((5, 3, 16), 7, 1), 1)
        self.assert_told(settled_at((5, 3, 16), 7, 4), 3)
        self.assert_told(settled_at((5, 3, 16), 7, 16), None)

    def test_edges(self):
        for part in (1, 2, 10 ** 30):
            self.assert_told(settled_at((0, 0, 1), 0, part), 0)
        self.assert_told(settled_at((1, 0, 3), 2, 2), 1)
        self.assert_told(settled_at((1, 0, 3), 1, 2), None)
        self.assert_told(settled_at((1, 0, 3), 1, 10 ** 30), None)
        # 2 alone is seen as 1, and the second part tells apart 1, which leads to it, and 0.
        self.assert_told(settled_at((1, 1, 3), 2, 2), 1)
        self.assert_told(settled_at((1, 1, 3), 1, 2), 2)
        self.assert_told(settled_at((1, 1, 3), 0, 2), 2)

    def test_settled_though_others_never_are(self):
        # 5 alone is seen as 1, and leads to 0 as all do.
        self.assert_told(settled_at((0, 0, 6), 5, 5), 1)
        self.assert_told(settled_at((0, 0, 6), 4, 5), None)

    def test_small_rules_one_by_one(self):
        for rule in rules_to(7):
            for start, part in itertools.product(range(rule[2]), range(1, rule[2] + 2)):
                self.assert_told(settled_at(rule, start, part), settled_one_by_one(rule, start, part))

    def test_middling_rules_one_by_one(self):
        for rule in ((5, 3, 16), (1, 1, 17), (2, 1, 18), (3, 0, 20), (1, 5, 20), (6, 5, 24), (0, 3, 15), (10, 1, 21)):
            for start, part in itertools.product(range(rule[2]), (1, 2, 3, rule[2] // 2, rule[2] - 1, rule[2])):
                self.assert_told(settled_at(rule, start, part), settled_one_by_one(rule, start, part))

    def test_bounds_of_2000(self):
        with Soon(20):
            # Of 1 1 2000 by the part 1999: only 1999 is seen as 1, and each start comes to it once.
            for start, many in ((1999, 1), (1998, 2), (1000, 1000), (2, 1998), (1, 1999), (0, 1999)):
                self.assert_told(settled_at((1, 1, 2000), start, 1999), many)
            self.assert_told(settled_at((1, 0, 2000), 1999, 1999), 1)
            self.assert_told(settled_at((1, 0, 2000), 1998, 1999), None)
            self.assert_told(settled_at((3, 1, 2000), 777, 1), 1)
            self.assert_told(settled_at((3, 1, 2000), 777, 2000), None)

    def test_refuses_numbers_that_are_none_of_the_rule(self):
        for rule in ((0, 0, 1), (5, 3, 16), (1, 1, 2000)):
            for number in (-1, -rule[2], rule[2], rule[2] + 1, 10 ** 19):
                self.assert_no_number(number, settled_at, rule, number, 4)
        self.assert_no_number(True, settled_at, (5, 3, 16), True, 4)


class AlwaysSettled(Checked):
    def test_ordinary(self):
        self.assert_told(always_settled((5, 3, 16), 1), 1)
        self.assert_told(always_settled((5, 3, 16), 4), 3)
        self.assert_told(always_settled((5, 3, 16), 16), None)
        self.assert_told(always_settled((1, 0, 4), 2), None)

    def test_edges(self):
        for part in (1, 2, 10 ** 30):
            self.assert_told(always_settled((0, 0, 1), part), 0)
        self.assert_told(always_settled((0, 0, 2), 1), 1)
        self.assert_told(always_settled((0, 0, 2), 2), None)
        self.assert_told(always_settled((1, 1, 3), 2), 2)

    def test_small_rules_one_by_one(self):
        for rule in rules_to(9):
            for part in range(1, rule[2] + 2):
                self.assert_told(always_settled(rule, part), always_one_by_one(rule, part))

    def test_middling_rules_one_by_one(self):
        for rule in ((5, 3, 32), (1, 1, 33), (2, 1, 34), (7, 5, 36), (1, 5, 40), (6, 5, 24), (0, 3, 15), (10, 1, 21)):
            for part in (1, 2, 3, rule[2] // 3, rule[2] // 2, rule[2] - 1, rule[2]):
                self.assert_told(always_settled(rule, part), always_one_by_one(rule, part))

    def test_the_greatest_of_all_starts(self):
        for rule in rules_to(6):
            for part in range(1, rule[2] + 1):
                each = [settled_at(rule, start, part) for start in range(rule[2])]
                self.assert_told(always_settled(rule, part), None if None in each else max(each))

    def test_bounds_of_2000(self):
        with Soon(20):
            self.assert_told(always_settled((1, 1, 2000), 1999), 1999)
            self.assert_told(always_settled((1, 1, 2000), 1000), 1000)
            self.assert_told(always_settled((1, 1, 2000), 1), 1)
            self.assert_told(always_settled((1, 1, 2000), 2000), None)
            self.assert_told(always_settled((1, 0, 2000), 1999), None)
            self.assert_told(always_settled((0, 7, 2000), 2), None)


class RulesByParts(Checked):
    def test_ordinary(self):
        self.assert_told(rules_by_parts(2, (0, 1, 0), 1), (1, (1, 1, 0)))
        self.assert_told(rules_by_parts(2, (0, 1), 1), (2, (0, 1, 0)))
        self.assert_told(rules_by_parts(3, (1,), 2), (9, (0, 0, 2)))
        self.assert_told(rules_by_parts(3, (0, 0, 1), 2), rules_one_by_one(3, (0, 0, 1), 2))
        self.assert_told(rules_by_parts(4, (0, 0, 1, 0, 0, 0), 1), (0, None))

    def test_any_whole_numbers(self):
        for seen in ((-1,), (4,), (10 ** 30,), (0, -1), (0, 4)):
            self.assert_told(rules_by_parts(4, seen, 1), (0, None))

    def test_edges(self):
        self.assert_told(rules_by_parts(1, (0,), 1), (1, (0, 0, 0)))
        self.assert_told(rules_by_parts(1, (0, 0, 0), 5), (1, (0, 0, 0)))
        self.assert_told(rules_by_parts(1, (1,), 1), (0, None))
        self.assert_told(rules_by_parts(12, (0,), 12), (1728, (0, 0, 0)))
        self.assert_told(rules_by_parts(12, (0,) * 60, 10 ** 30), (1728, (0, 0, 0)))

    def test_small_bounds_one_by_one(self):
        for bound, part in itertools.product(range(1, 5), (1, 2, 3, 4)):
            most = (bound - 1) // part + 2
            for many in (1, 2, 3, 4):
                for seen in itertools.product(range(most), repeat=many):
                    self.assert_told(rules_by_parts(bound, seen, part), rules_one_by_one(bound, seen, part))

    def test_bounds_to_12_one_by_one(self):
        for bound, part in ((7, 2), (9, 3), (10, 4), (12, 1), (12, 5), (12, 6), (12, 11)):
            for seen in ((0,), (1, 1), (0, 1, 0), (1, 0, 0, 1), (0, 0, 0, 1), (2, 0, 1), (1, 0, 1, 0, 1)):
                self.assert_told(rules_by_parts(bound, seen, part), rules_one_by_one(bound, seen, part))

    def test_bounds_somewhat_beyond_raise_no_error(self):
        self.assert_told(rules_by_parts(13, (0, 12, 0), 1), rules_one_by_one(13, (0, 12, 0), 1))
        self.assert_told(rules_by_parts(2, (), 1), (8, (0, 0, 0)))


class Interface(Checked):
    def test_names_of_arguments(self):
        self.assert_names({parts_from: ["rule", "start", "many", "part"], starts_that_fit: ["rule", "seen", "part"],
                           settled_at: ["rule", "start", "part"], always_settled: ["rule", "part"],
                           rules_by_parts: ["bound", "seen", "part"]})

    def test_called_by_names(self):
        rule = (5, 3, 16)
        self.assert_told(parts_from(part=4, many=3, start=7, rule=rule), (1, 1, 0))
        self.assert_told(starts_that_fit(part=4, seen=(1, 1), rule=rule), (4, 7))
        self.assert_told(settled_at(part=4, start=7, rule=rule), 3)
        self.assert_told(always_settled(part=4, rule=rule), 3)
        self.assert_told(rules_by_parts(part=1, seen=(0, 1, 0), bound=2), (1, (1, 1, 0)))

    def test_the_same_asked_again_is_answered_the_same(self):
        rule = (5, 3, 16)
        self.assert_same_again([(parts_from, (rule, 7, 5, 4)), (starts_that_fit, (rule, (1, 1), 4)),
                                (settled_at, (rule, 7, 4)), (always_settled, (rule, 4)), (settled_at, (rule, 3, 16)),
                                (rules_by_parts, (4, (0, 1, 0), 2)), (rules_by_parts, (4, (0, 9), 2))])

    def test_under_which_classes_the_refusals_stand(self):
        for function, handed in ((parts_from, ((5, 3, 16), 16, 3, 4)), (settled_at, ((5, 3, 16), 16, 4))):
            with self.assertRaises(NoNumber) as caught:
                function(*handed)
            self.assertIsInstance(caught.exception, RowError)
            self.assertIsInstance(caught.exception, ValueError)
            self.assertNotIsInstance(caught.exception, NoFit)


if __name__ == "__main__":
    unittest.main()
