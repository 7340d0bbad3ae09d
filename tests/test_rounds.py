import unittest
from collections import Counter

from tests.helpers import Checked, Soon, nexts, rules_to, walk
from timesrow.rules.rounds import all_rounds, is_one_round, round_from, steps_to

GREAT = 10 ** 12
OF_2000 = ((0, 0, 2000), (0, 1999, 2000), (1, 0, 2000), (1, 1, 2000), (1, 400, 2000), (21, 7, 2000), (3, 1, 2000),
           (2, 1, 2000), (10, 5, 2000), (1999, 1999, 2000), (5, 3, 1999), (1998, 0, 1999), (2, 1, 1024))


def rounds_one_by_one(table):
    """Pairs (length, how many rounds), from what each number's own row tells."""
    inside = Counter()
    for start in range(len(table)):
        number, steps = table[start], 1
        while number != start and steps <= len(table):
            number, steps = table[number], steps + 1
        if number == start:
            inside[steps] += 1
    return tuple((length, inside[length] // length) for length in sorted(inside))


class RoundFrom(Checked):
    def test_ordinary(self):
        self.assert_told(round_from((2, 0, 12), 1), (2, 2))
        self.assert_told(round_from((5, 3, 16), 7), (0, 16))
        self.assert_told(round_from((2, 0, 16), 1), (4, 1))

    def test_edges(self):
        self.assert_told(round_from((0, 0, 1), 0), (0, 1))
        self.assert_told(round_from((0, 4, 9), 8), (1, 1))
        self.assert_told(round_from((0, 4, 9), 4), (0, 1))
        self.assert_told(round_from((1, 0, 9), 8), (0, 1))
        self.assert_told(round_from((1, 1, 9), 8), (0, 9))

    def test_small_rules_one_by_one(self):
        for rule in rules_to(11):
            table = nexts(rule)
            for start in range(rule[2]):
                row, tail = walk(table, start)
                self.assert_told(round_from(rule, start), (tail, len(row) - tail))

    def test_bounds_of_2000(self):
        for rule in OF_2000:
            table = nexts(rule)
            for start in (0, 1, 777, rule[2] - 1):
                row, tail = walk(table, start)
                self.assert_told(round_from(rule, start), (tail, len(row) - tail))

    def test_refuses_numbers_that_are_none_of_the_rule(self):
        for rule in ((0, 0, 1), (4, 3, 16), (1, 1, 2000)):
            for number in (-1, rule[2], rule[2] + 1, 10 ** 19):
                self.assert_no_number(number, round_from, rule, number)
        self.assert_no_number(True, round_from, (5, 3, 16), True)


class AllRounds(Checked):
    def test_ordinary(self):
        self.assert_told(all_rounds((2, 0, 12)), ((1, 1), (2, 1)))
        self.assert_told(all_rounds((5, 3, 16)), ((16, 1),))
        self.assert_told(all_rounds((3, 0, 16)), ((1, 2), (2, 3), (4, 2)))

    def test_edges(self):
        self.assert_told(all_rounds((0, 0, 1)), ((1, 1),))
        self.assert_told(all_rounds((0, 4, 9)), ((1, 1),))
        self.assert_told(all_rounds((1, 0, 9)), ((1, 9),))
        self.assert_told(all_rounds((1, 1, 9)), ((9, 1),))

    def test_small_rules_one_by_one(self):
        for rule in rules_to(16):
            self.assert_told(all_rounds(rule), rounds_one_by_one(nexts(rule)))

    def test_bounds_of_2000(self):
        for rule in OF_2000:
            self.assert_told(all_rounds(rule), rounds_one_by_one(nexts(rule)))


class StepsTo(Checked):
    def test_ordinary(self):
        self.assert_told(steps_to((5, 3, 16), 7, 10), 5)
        self.assert_told(steps_to((2, 0, 12), 1, 8), 3)
        self.assert_told(steps_to((2, 0, 12), 1, 3), None)
        self.assert_told(steps_to((2, 0, 12), 4, 1), None)

    def test_edges(self):
        self.assert_told(steps_to((0, 0, 1), 0, 0), 0)
        self.assert_told(steps_to((0, 4, 9), 8, 4), 1)
        self.assert_told(steps_to((0, 4, 9), 8, 8), 0)
        self.assert_told(steps_to((0, 4, 9), 4, 8), None)
        self.assert_told(steps_to((1, 0, 9), 8, 0), None)
        self.assert_told(steps_to((1, 1, 9), 0, 8), 8)
        self.assert_told(steps_to((1, 1, 9), 8, 0), 1)

    def test_small_rules_one_by_one(self):
        for rule in rules_to(9):
            table = nexts(rule)
            for start in range(rule[2]):
                row, tail = walk(table, start)
                for number in range(rule[2]):
                    self.assert_told(steps_to(rule, start, number), row.index(number) if number in row else None)

    def test_bounds_of_2000(self):
        for rule in OF_2000:
            row, tail = walk(nexts(rule), 1)
            for number in (0, 1, 777, rule[2] - 1):
                self.assert_told(steps_to(rule, 1, number), row.index(number) if number in row else None)

    def test_the_first_that_is_none_is_kept(self):
        for rule in ((0, 0, 1), (4, 3, 16), (1, 1, 2000)):
            for number in (-1, rule[2], rule[2] + 1):
                self.assert_no_number(number, steps_to, rule, number, 0)
                self.assert_no_number(number, steps_to, rule, 0, number)
                self.assert_no_number(number, steps_to, rule, number, -7)
                self.assert_no_number(-7, steps_to, rule, -7, number)
        self.assert_no_number(True, steps_to, (5, 3, 16), 1, True)
        self.assert_no_number(False, steps_to, (5, 3, 16), False, True)


class OneRound(Checked):
    def test_ordinary(self):
        self.assertIs(is_one_round((5, 3, 16)), True)
        self.assertIs(is_one_round((5, 2, 16)), False)
        self.assertIs(is_one_round((3, 3, 16)), False)
        self.assertIs(is_one_round((7, 5, 18)), True)

    def test_edges(self):
        self.assertIs(is_one_round((0, 0, 1)), True)
        self.assertIs(is_one_round((1, 1, 2)), True)
        self.assertIs(is_one_round((1, 0, 2)), False)
        self.assertIs(is_one_round((0, 1, 2)), False)
        self.assertIs(is_one_round((3, 1, 4)), False)
        self.assertIs(is_one_round((1, 3, 4)), True)

    def test_small_rules_one_by_one(self):
        for rule in rules_to(32):
            row, tail = walk(nexts(rule), 0)
            self.assertIs(is_one_round(rule), tail == 0 and len(row) == rule[2])

    def test_bounds_of_2000(self):
        for rule in OF_2000:
            self.assertIs(is_one_round(rule), rounds_one_by_one(nexts(rule)) == ((rule[2], 1),))

    def test_great_bounds(self):
        prime = 999999999989
        square = 999983 ** 2
        told = (((1, 1, GREAT), True), ((21, 7, GREAT), True), ((21, 10, GREAT), False), ((11, 7, GREAT), False),
                ((5, 7, GREAT), False), ((GREAT - 19, GREAT - 1, GREAT), True), ((0, 1, GREAT), False),
                ((1, 0, GREAT), False), ((1, 1, prime), True), ((2, 1, prime), False), ((0, 1, prime), False),
                ((1, 0, prime), False), ((999984, 5, square), True), ((999983, 5, square), False),
                ((999984, 999983, square), False), ((3, 1, 2 * 3 ** 24), False), ((7, 1, 2 * 3 ** 24), True),
                ((5, 1, 2 ** 39), True), ((3, 1, 2 ** 39), False))
        with Soon():
            for rule, expected in told:
                with self.subTest(rule=rule):
                    self.assertIs(is_one_round(rule), expected)


class Interface(Checked):
    def test_names_of_arguments(self):
        named = {round_from: ["rule", "start"], all_rounds: ["rule"], steps_to: ["rule", "start", "number"],
                 is_one_round: ["rule"]}
        self.assert_names(named)

    def test_called_by_names(self):
        rule = (2, 0, 12)
        self.assert_told(round_from(start=1, rule=rule), (2, 2))
        self.assert_told(all_rounds(rule=rule), ((1, 1), (2, 1)))
        self.assert_told(steps_to(number=8, start=1, rule=rule), 3)
        self.assertIs(is_one_round(rule=rule), False)

    def test_the_same_asked_again_is_answered_the_same(self):
        rule = (2, 0, 12)
        asked = [(round_from, (rule, 1)), (all_rounds, (rule,)), (steps_to, (rule, 1, 8)), (is_one_round, (rule,))]
        self.assert_same_again(asked)


if __name__ == "__main__":
    unittest.main()
