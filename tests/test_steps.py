import unittest
from math import gcd

from tests.helpers import Checked, Soon, nexts, rules_to, walked
from timesrow.errors import NoBack, NoRule
from timesrow.rules.steps import before, jumped, next_of, read_rule, row_from, rule_of_steps, rule_shown

GREAT = 10 ** 12
# Times with no common divisor with the bound (of GREAT: neither even nor ending in 5), and with one.
GREAT_RULES = (
    (10 ** 12 - 1, 10 ** 12 - 1, GREAT),
    (6364136223 * 2 + 1, 11, GREAT),
    (999999999989 - 1, 5, 999999999989),
    (1, 1, GREAT),
    (3, 0, GREAT),
)
GREAT_RULES_WITHOUT_BACK = ((10, 7, GREAT), (0, 12345, GREAT), (2 ** 20, 3, GREAT), (5 ** 12, 10 ** 12 - 1, GREAT))
MOST_STEPS = 10 ** 19 - 1


def told_by_powers(rule, start, steps):
    """Where so many steps from 0 on lead to, by the sum of a geometric row."""
    times, plus, bound = rule
    if times == 1:
        return (start + steps * plus) % bound
    if times == 0:
        return start if steps == 0 else plus
    power = pow(times, steps, (times - 1) * bound)
    return (power * start + (power - 1) // (times - 1) * plus) % bound


class Texts(Checked):
    def test_reads_rules(self):
        self.assert_told(read_rule("0 0 1"), (0, 0, 1))
        self.assert_told(read_rule("5 3 16"), (5, 3, 16))
        self.assert_told(read_rule("0 10 11"), (0, 10, 11))
        self.assert_told(read_rule("10 0 11"), (10, 0, 11))
        self.assert_told(read_rule("1999 1998 2000"), (1999, 1998, 2000))
        self.assert_told(read_rule("999999999999 999999999999 1000000000000"), (GREAT - 1, GREAT - 1, GREAT))

    def test_shows_rules(self):
        self.assertEqual(rule_shown((0, 0, 1)), "0 0 1")
        self.assertEqual(rule_shown((5, 3, 16)), "5 3 16")
        self.assertEqual(rule_shown((GREAT - 1, 0, GREAT)), "999999999999 0 1000000000000")

    def test_reads_what_it_shows(self):
        for rule in rules_to(12):
            self.assert_told(read_rule(rule_shown(rule)), rule)

    def assert_no_rule(self, text):
        with self.subTest(text=text):
            with self.assertRaises(NoRule):
                read_rule(text)

    def test_refuses_texts_of_another_form(self):
        for text in ("", " ", "  ", "\n", "5", "5 3", "5 3 ", " 3 16", "5  16", "5 3 16 1", "rule 5 3 16", "a b c",
                     "5,3,16", "5 3 x", "(5, 3, 16)", "5.0 3 16", "1_0 3 16", "0x5 3 16", "5e0 3 16", "5 3 16~"):
            self.assert_no_rule(text)

    def test_refuses_blanks_too_many(self):
        for text in (" 5 3 16", "5 3 16 ", "5  3 16", "5 3  16", "  5 3 16", "5 3 16  "):
            self.assert_no_rule(text)

    def test_refuses_a_nought_ahead(self):
        for text in ("05 3 16", "5 03 16", "5 3 016", "00 0 1", "0 00 1", "0 0 01", "0 0 00"):
            self.assert_no_rule(text)

    def test_refuses_signs(self):
        for text in ("+5 3 16", "5 +3 16", "5 3 +16", "-5 3 16", "5 -3 16", "5 3 -16", "-0 0 1", "0 +0 1", "- 3 16"):
            self.assert_no_rule(text)

    def test_refuses_line_ends_and_other_white_space(self):
        for text in ("5 3 16\n", "\n5 3 16", "5\n3 16", "5 3\n16", "5 3 \n16", "5\n 3 16", "5\t3\t16", "5 3 16\r"):
            self.assert_no_rule(text)

    def test_refuses_figures_of_other_scripts(self):
        for text in ("\u0665 3 16", "\u00b2 3 16", "5 3 \uff11\uff16"):
            self.assert_no_rule(text)

    def test_refuses_numbers_that_make_no_rule(self):
        for text in ("0 0 0", "1 0 0", "0 1 0", "1 0 1", "0 1 1", "16 3 16", "5 16 16", "17 3 16", "5 17 16"):
            self.assert_no_rule(text)

    def test_refuses_long_texts(self):
        for text in ("1" * 400, "5 " * 200, " " * 400, "0" * 400, "5 3 " + "0" * 396):
            self.assert_no_rule(text)

    def test_refuses_what_is_no_text(self):
        for thing in (None, 5, (5, 3, 16), b"5 3 16"):
            self.assert_no_rule(thing)


class Rows(Checked):
    def test_ordinary_rows(self):
        self.assert_told(next_of((5, 3, 16), 7), 6)
        self.assert_told(row_from((5, 3, 16), 7, 6), (7, 6, 1, 8, 11, 10))
        self.assert_told(row_from((2, 0, 12), 1, 5), (1, 2, 4, 8, 4))

    def test_edges(self):
        self.assert_told(next_of((0, 0, 1), 0), 0)
        self.assert_told(row_from((0, 0, 1), 0, 3), (0, 0, 0))
        self.assert_told(row_from((0, 4, 9), 8, 3), (8, 4, 4))
        self.assert_told(row_from((1, 0, 9), 8, 3), (8, 8, 8))
        self.assert_told(row_from((1, 1, 9), 8, 3), (8, 0, 1))
        self.assert_told(row_from((3, 0, 9), 0, 3), (0, 0, 0))

    def test_no_numbers_of_a_row_and_one(self):
        for rule in ((0, 0, 1), (5, 3, 16), (GREAT - 1, 1, GREAT)):
            self.assert_told(row_from(rule, 0, 0), ())
            self.assert_told(row_from(rule, 0, 1), (0,))
            self.assert_told(row_from(rule, rule[2] - 1, 1), (rule[2] - 1,))

    def test_all_small_rules_one_by_one(self):
        for rule in rules_to(9):
            table = nexts(rule)
            for start in range(rule[2]):
                self.assert_told(next_of(rule, start), table[start])
                for many in (0, 1, 2, 13):
                    expected = tuple(walked(table, start, steps) for steps in range(many))
                    self.assert_told(row_from(rule, start, many), expected)

    def test_great_bounds(self):
        for rule in GREAT_RULES + GREAT_RULES_WITHOUT_BACK:
            for start in (0, 1, 987654321, rule[2] - 1):
                self.assert_told(next_of(rule, start), (rule[0] * start + rule[1]) % rule[2])
                expected = tuple(told_by_powers(rule, start, steps) for steps in range(60))
                self.assert_told(row_from(rule, start, 60), expected)

    def test_refuses_numbers_that_are_none_of_the_rule(self):
        for rule in ((0, 0, 1), (5, 3, 16), (1, 1, 2000), (3, 1, GREAT)):
            for number in (-1, -rule[2], rule[2], rule[2] + 1, 10 ** 19):
                self.assert_no_number(number, next_of, rule, number)
                self.assert_no_number(number, row_from, rule, number, 5)
                self.assert_no_number(number, row_from, rule, number, 0)

    def test_truths_are_no_numbers(self):
        self.assert_no_number(True, next_of, (5, 3, 16), True)
        self.assert_no_number(False, row_from, (5, 3, 16), False, 2)


class Jumps(Checked):
    def test_ordinary_jumps(self):
        self.assert_told(jumped((5, 3, 16), 7, 5), 10)
        self.assert_told(jumped((5, 3, 16), 10, -5), 7)
        self.assert_told(jumped((2, 0, 12), 1, 4), 4)

    def test_no_steps(self):
        for rule in ((0, 0, 1), (5, 3, 16), (0, 3, 16), (4, 3, 16), (10, 1, GREAT)):
            self.assert_told(jumped(rule, 0, 0), 0)
            self.assert_told(jumped(rule, rule[2] - 1, 0), rule[2] - 1)

    def test_small_rules_ahead_one_by_one(self):
        for rule in rules_to(8):
            table = nexts(rule)
            for start in range(rule[2]):
                for steps in range(20):
                    self.assert_told(jumped(rule, start, steps), walked(table, start, steps))

    def test_small_rules_back_one_by_one(self):
        for rule in rules_to(9):
            table = nexts(rule)
            leads_back = len(set(table)) == rule[2]
            for start in range(rule[2]):
                for steps in range(1, 14):
                    if leads_back:
                        there = jumped(rule, start, -steps)
                        self.assertIs(type(there), int)
                        self.assertIn(there, range(rule[2]))
                        self.assertEqual(walked(table, there, steps), start)
                    else:
                        with self.assertRaises(NoBack):
                            jumped(rule, start, -steps)

    def test_back_where_times_and_bound_have_no_common_divisor(self):
        self.assert_told(jumped((0, 0, 1), 0, -1), 0)
        self.assert_told(jumped((0, 0, 1), 0, -MOST_STEPS), 0)
        self.assert_told(jumped((1, 1, 9), 0, -1), 8)
        self.assert_told(jumped((1, 0, 9), 4, -7), 4)
        self.assert_told(jumped((8, 0, 9), 4, -1), 5)

    def test_no_back_where_they_have_one(self):
        for rule in ((0, 0, 2), (0, 1, 5), (4, 3, 16), (6, 1, 9), (10, 1, 15)) + GREAT_RULES_WITHOUT_BACK:
            for start in (0, rule[1], rule[2] - 1):
                for steps in (-1, -2, -MOST_STEPS):
                    with self.assertRaises(NoBack):
                        jumped(rule, start, steps)

    def test_no_number_ahead_of_no_back(self):
        for number in (-1, 16, 17):
            for steps in (-1, -MOST_STEPS, 0, 1, MOST_STEPS):
                self.assert_no_number(number, jumped, (4, 3, 16), number, steps)
                self.assert_no_number(number, jumped, (5, 3, 16), number, steps)
        self.assert_no_number(1, jumped, (0, 0, 1), 1, 0)
        self.assert_no_number(GREAT, jumped, (10, 1, GREAT), GREAT, -1)
        self.assert_no_number(True, jumped, (4, 3, 16), True, -1)

    def test_great_jumps_ahead(self):
        with Soon():
            for rule in GREAT_RULES + GREAT_RULES_WITHOUT_BACK + ((5, 3, 16), (0, 0, 1), (1999, 7, 2000)):
                for start in (0, rule[2] // 3, rule[2] - 1):
                    for steps in (1, 2, 1000, 2 ** 63, MOST_STEPS - 1, MOST_STEPS):
                        self.assert_told(jumped(rule, start, steps), told_by_powers(rule, start, steps))

    def test_great_jumps_back(self):
        with Soon():
            for rule in GREAT_RULES + ((5, 3, 16), (1999, 7, 2000), (1, 0, 2000)):
                for start in (0, rule[2] // 3, rule[2] - 1):
                    for steps in (1, 2, 1000, 2 ** 63, MOST_STEPS - 1, MOST_STEPS):
                        there = jumped(rule, start, -steps)
                        self.assertIn(there, range(rule[2]))
                        self.assertEqual(told_by_powers(rule, there, steps), start)


class RulesOfSteps(Checked):
    def test_ordinary(self):
        self.assert_told(rule_of_steps((5, 3, 16), 2), (9, 2, 16))
        self.assert_told(rule_of_steps((2, 0, 12), 4), (4, 0, 12))

    def test_no_steps_and_one(self):
        self.assert_told(rule_of_steps((0, 0, 1), 0), (0, 0, 1))
        self.assert_told(rule_of_steps((0, 1, 2), 0), (1, 0, 2))
        for rule in ((0, 0, 1), (0, 3, 16), (5, 3, 16), (4, 0, 2000)) + GREAT_RULES:
            self.assert_told(rule_of_steps(rule, 0), (1 % rule[2], 0, rule[2]))
            self.assert_told(rule_of_steps(rule, 1), rule)

    def test_small_rules_one_by_one(self):
        for rule in rules_to(9):
            table = nexts(rule)
            for steps in range(14):
                told = rule_of_steps(rule, steps)
                self.assertIs(type(told), tuple)
                self.assertEqual([type(part) for part in told], [int, int, int])
                self.assertEqual(told[2], rule[2])
                self.assertTrue(0 <= told[0] < rule[2] and 0 <= told[1] < rule[2])
                self.assertEqual(nexts(told), [walked(table, start, steps) for start in range(rule[2])])

    def test_great_bounds_and_steps(self):
        with Soon():
            for rule in GREAT_RULES + GREAT_RULES_WITHOUT_BACK:
                for steps in (2, 60, 2 ** 63 - 1, MOST_STEPS - 1, MOST_STEPS):
                    plus = told_by_powers(rule, 0, steps)
                    times = (told_by_powers(rule, 1, steps) - plus) % rule[2]
                    self.assert_told(rule_of_steps(rule, steps), (times, plus, rule[2]))


class Before(Checked):
    def test_ordinary(self):
        self.assert_told(before((5, 3, 16), 6), (1, 7))
        self.assert_told(before((4, 3, 16), 7), (4, 1))
        self.assert_told(before((4, 3, 16), 2), (0, None))

    def test_edges(self):
        self.assert_told(before((0, 0, 1), 0), (1, 0))
        self.assert_told(before((0, 4, 9), 4), (9, 0))
        self.assert_told(before((0, 4, 9), 5), (0, None))
        self.assert_told(before((1, 0, 9), 8), (1, 8))
        self.assert_told(before((1, 1, 9), 0), (1, 8))

    def test_small_rules_one_by_one(self):
        for rule in rules_to(16):
            table = nexts(rule)
            for number in range(rule[2]):
                found = [one for one in range(rule[2]) if table[one] == number]
                self.assert_told(before(rule, number), (len(found), found[0] if found else None))

    def test_great_bounds(self):
        with Soon():
            for rule in GREAT_RULES + GREAT_RULES_WITHOUT_BACK:
                times, plus, bound = rule
                shared = gcd(times, bound)
                for one in (0, 1, 987654321, bound - 1):
                    number = (times * one + plus) % bound
                    # All that lead to the number stand apart by bound // shared, so the least is this rest.
                    self.assert_told(before(rule, number), (shared, one % (bound // shared)))
                    if shared > 1:
                        self.assert_told(before(rule, (number + 1) % bound), (0, None))

    def test_refuses_numbers_that_are_none_of_the_rule(self):
        for rule in ((0, 0, 1), (4, 3, 16), (5, 3, 16), (10, 1, GREAT)):
            for number in (-1, rule[2], rule[2] + 1, 10 ** 19):
                self.assert_no_number(number, before, rule, number)
        self.assert_no_number(True, before, (5, 3, 16), True)


class Interface(Checked):
    def test_names_of_arguments(self):
        named = {read_rule: ["text"], rule_shown: ["rule"], next_of: ["rule", "number"],
                 row_from: ["rule", "start", "many"], jumped: ["rule", "start", "steps"],
                 rule_of_steps: ["rule", "steps"], before: ["rule", "number"]}
        self.assert_names(named)

    def test_called_by_names(self):
        rule = (5, 3, 16)
        self.assert_told(read_rule(text="5 3 16"), rule)
        self.assertEqual(rule_shown(rule=rule), "5 3 16")
        self.assert_told(next_of(number=7, rule=rule), 6)
        self.assert_told(row_from(many=3, start=7, rule=rule), (7, 6, 1))
        self.assert_told(jumped(steps=-2, start=1, rule=rule), 7)
        self.assert_told(rule_of_steps(steps=2, rule=rule), (9, 2, 16))
        self.assert_told(before(number=6, rule=rule), (1, 7))

    def test_the_same_asked_again_is_answered_the_same(self):
        rule = (5, 3, 16)
        asked = [(read_rule, ("5 3 16",)), (rule_shown, (rule,)), (next_of, (rule, 7)), (row_from, (rule, 7, 5)),
                 (jumped, (rule, 7, -9)), (rule_of_steps, (rule, 9)), (before, (rule, 6))]
        self.assert_same_again(asked)


if __name__ == "__main__":
    unittest.main()
