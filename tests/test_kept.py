import inspect
import itertools
import random
import unittest

from tests.helpers import Checked, Soon, fitting, kinds
from timesrow.errors import NoAsk, NoBack, NoFit, NoNumber, NoRule, RowError
from timesrow.kept import KeptRow

GREAT = 10 ** 12
PRIME = 999999999989


def row_of(rule, start, many):
    row = [start]
    while len(row) < many:
        row.append((rule[0] * row[-1] + rule[1]) % rule[2])
    return tuple(row)


def made_afresh(bound, row):
    kept = KeptRow(bound)
    for number in row:
        kept.see(number)
    return kept


def told_by(kept):
    """All that a kept row tells."""
    return kinds((kept.row_now(), kept.fit_now(), kept.guess_now()))


def told_one_by_one(bound, row):
    """All that a kept row of small bound is to tell, each rule tried."""
    rules = fitting(row, bound)
    if len(row) < 2:
        return kinds((row, None, None))
    behind = sorted({(times * row[-1] + plus) % bound for times, plus, its_bound in rules})
    times = [rule[0] for rule in rules]
    return kinds((row, (times[0], bound // len(times)), behind[0] if len(behind) == 1 else None))


class Seen(Checked):
    def test_at_first_none(self):
        for bound in (1, 2, 16, GREAT):
            kept = KeptRow(bound)
            self.assert_told(kept.row_now(), ())
            self.assert_told(kept.fit_now(), None)
            self.assert_told(kept.guess_now(), None)

    def test_ordinary(self):
        kept = KeptRow(16)
        self.assertIsNone(kept.see(7))
        self.assertEqual(told_by(kept), kinds(((7,), None, None)))
        self.assertIsNone(kept.see(6))
        self.assertEqual(told_by(kept), kinds(((7, 6), (0, 1), None)))
        self.assertIsNone(kept.see(1))
        self.assertEqual(told_by(kept), kinds(((7, 6, 1), (5, 16), 8)))
        self.assertIsNone(kept.take_back())
        self.assertEqual(told_by(kept), kinds(((7, 6), (0, 1), None)))

    def test_a_guess_of_several_rules_that_agree(self):
        self.assertEqual(told_by(made_afresh(16, (3, 3))), kinds(((3, 3), (0, 1), 3)))
        self.assertEqual(told_by(made_afresh(16, (0, 4, 4))), kinds(((0, 4, 4), (0, 4), 4)))
        self.assertEqual(told_by(made_afresh(16, (0, 4, 8))), kinds(((0, 4, 8), (1, 4), 12)))
        self.assertEqual(told_by(made_afresh(16, (0, 8, 0, 8))), kinds(((0, 8, 0, 8), (1, 2), 0)))

    def test_no_guess_of_several_rules_that_differ(self):
        self.assertEqual(told_by(made_afresh(16, (0, 2))), kinds(((0, 2), (0, 1), None)))
        self.assertEqual(told_by(made_afresh(16, (8, 0))), kinds(((8, 0), (0, 1), None)))
        self.assertEqual(told_by(made_afresh(2, (0, 1))), kinds(((0, 1), (0, 1), None)))

    def test_bound_1(self):
        kept = KeptRow(1)
        kept.see(0)
        self.assertEqual(told_by(kept), kinds(((0,), None, None)))
        kept.see(0)
        self.assertEqual(told_by(kept), kinds(((0, 0), (0, 1), 0)))
        self.assert_no_number(1, kept.see, 1)

    def test_small_bounds_one_by_one(self):
        for bound, longest in ((1, 4), (2, 4), (3, 4), (4, 4), (5, 4), (6, 3), (8, 3), (12, 3)):
            for length in range(longest + 1):
                for row in itertools.product(range(bound), repeat=length):
                    self.look_at(bound, row)

    def look_at(self, bound, row):
        """Each number is seen just where some rule fits with it."""
        kept = KeptRow(bound)
        seen = ()
        for number in row:
            if fitting(seen + (number,), bound):
                kept.see(number)
                seen += (number,)
            else:
                with self.assertRaises(NoFit):
                    kept.see(number)
        self.assertEqual(told_by(kept), told_one_by_one(bound, seen))

    def test_great_bounds(self):
        with Soon():
            row = row_of((6364136223 * 2 + 1, 11, GREAT), 1, 60)
            kept = made_afresh(GREAT, row)
            behind = (row[-1] * (6364136223 * 2 + 1) + 11) % GREAT
            self.assertEqual(told_by(kept), kinds((row, (6364136223 * 2 + 1, GREAT), behind)))
            with self.assertRaises(NoFit):
                kept.see((behind + 1) % GREAT)
            kept = made_afresh(PRIME, (0, 1, PRIME - 1))
            self.assertEqual(told_by(kept), kinds(((0, 1, PRIME - 1), (PRIME - 2, PRIME), 3)))
            kept = made_afresh(GREAT, (0, 2 ** 12, 0))
            self.assertEqual(told_by(kept), kinds(((0, 2 ** 12, 0), (5 ** 12 - 1, 5 ** 12), 2 ** 12)))

    def test_rows_of_60_and_somewhat_more(self):
        row = row_of((5, 3, 16), 7, 64)
        self.assertEqual(told_by(made_afresh(16, row[:60])), kinds((row[:60], (5, 16), row[60])))
        self.assertEqual(told_by(made_afresh(16, row[:63])), kinds((row[:63], (5, 16), row[63])))


class Refused(Checked):
    def test_numbers_that_are_none(self):
        for bound in (1, 16, GREAT):
            for row in ((), (0,), (0, 0)):
                kept = made_afresh(bound, row)
                for wrong in (-1, bound, bound + 1, -GREAT, 10 ** 19, True, False):
                    self.assert_no_number(wrong, kept.see, wrong)
                    self.assertEqual(told_by(kept), told_by(made_afresh(bound, row)))

    def test_no_rule_fits(self):
        for bound, row, wrong in ((16, (3, 3), (0, 2, 4, 15)), (16, (0, 2), (3, 5, 15)), (16, (7, 6, 1), (0, 7, 9, 15)),
                                  (2, (0, 0), (1,)), (GREAT, (5, 5), (6, 0, GREAT - 1))):
            kept = made_afresh(bound, row)
            for number in wrong:
                with self.assertRaises(NoFit):
                    kept.see(number)
                self.assertEqual(told_by(kept), told_by(made_afresh(bound, row)))

    def test_no_number_ahead_of_no_fit(self):
        kept = made_afresh(16, (3, 3))
        for wrong in (-1, 16, 19, GREAT):
            self.assert_no_number(wrong, kept.see, wrong)
        with self.assertRaises(NoFit):
            kept.see(15)

    def test_nothing_to_take_back(self):
        for bound in (1, 16, GREAT):
            kept = KeptRow(bound)
            for time in range(3):
                with self.assertRaises(NoFit):
                    kept.take_back()
                self.assertEqual(told_by(kept), told_by(KeptRow(bound)))
            kept.see(0)
            kept.take_back()
            with self.assertRaises(NoFit):
                kept.take_back()
            self.assertEqual(told_by(kept), told_by(KeptRow(bound)))

    def test_what_is_refused_changes_nothing_seen_later(self):
        kept = KeptRow(16)
        for number in (7, 6, 1):
            for wrong in (-1, 16):
                self.assert_no_number(wrong, kept.see, wrong)
            kept.see(number)
        for wrong in (0, 1, 7, 9):
            with self.assertRaises(NoFit):
                kept.see(wrong)
        kept.see(8)
        self.assertEqual(told_by(kept), told_by(made_afresh(16, (7, 6, 1, 8))))

    def test_under_which_classes_they_stand(self):
        kept = made_afresh(16, (3, 3))
        for asked, kind in ((lambda: kept.see(16), NoNumber), (lambda: kept.see(4), NoFit),
                            (lambda: KeptRow(16).take_back(), NoFit)):
            with self.assertRaises(RowError) as caught:
                asked()
            self.assertIsInstance(caught.exception, ValueError)
            for other in (NoNumber, NoFit, NoRule, NoBack, NoAsk):
                self.assertEqual(isinstance(caught.exception, other), other == kind)


class ComingsAndGoings(Checked):
    def test_all_short_ones_of_small_bounds(self):
        for bound in (1, 2, 3):
            deeds = list(range(-1, bound + 1)) + ["back"]
            for line in itertools.product(deeds, repeat=5 if bound < 3 else 4):
                self.go_through(KeptRow(bound), bound, line)

    def go_through(self, kept, bound, deeds):
        seen = ()
        for deed in deeds:
            seen = self.do(kept, bound, seen, deed)
            self.assertEqual(told_by(kept), told_by(made_afresh(bound, seen)))

    def do(self, kept, bound, seen, deed):
        """One deed, taken or refused; told are the numbers that are seen then."""
        if deed == "back":
            if not seen:
                self.assertRaises(NoFit, kept.take_back)
                return seen
            kept.take_back()
            return seen[:-1]
        if not 0 <= deed < bound:
            self.assert_no_number(deed, kept.see, deed)
            return seen
        if len(seen) > 1 and not fitting(seen + (deed,), bound):
            with self.assertRaises(NoFit):
                kept.see(deed)
            return seen
        kept.see(deed)
        return seen + (deed,)

    def test_120_deeds(self):
        chance = random.Random(8)
        for bound in (1, 2, 4, 6, 9, 12):
            kept = KeptRow(bound)
            seen = ()
            for deed in range(120):
                # Mostly what a rule that fits leads to, so that the row grows long now and then.
                rules = fitting(seen, bound) if len(seen) > 1 else []
                rule = chance.choice(rules) if rules else None
                going_on = (rule[0] * seen[-1] + rule[1]) % bound if rule else chance.randrange(bound)
                choice = chance.choice([going_on, going_on, going_on, "back", chance.randrange(-1, bound + 2)])
                seen = self.do(kept, bound, seen, choice)
                self.assertEqual(told_by(kept), told_by(made_afresh(bound, seen)))
                self.assertEqual(told_by(kept), told_one_by_one(bound, seen))

    def test_all_taken_back_and_seen_again(self):
        row = row_of((6364136223 * 2 + 1, 11, GREAT), 1, 60)
        kept = made_afresh(GREAT, row)
        for many in range(59, -1, -1):
            kept.take_back()
            self.assertEqual(told_by(kept), told_by(made_afresh(GREAT, row[:many])))
        other = row_of((3, 2 ** 12, GREAT), 0, 60)
        for many in range(60):
            kept.see(other[many])
            self.assertEqual(told_by(kept), told_by(made_afresh(GREAT, other[:many + 1])))

    def test_another_way_on_behind_what_was_taken_back(self):
        kept = made_afresh(16, (7, 6, 1, 8))
        kept.take_back()
        kept.take_back()
        kept.see(7)
        self.assertEqual(told_by(kept), kinds(((7, 6, 7), (15, 16), 6)))

    def test_questions_change_nothing(self):
        kept = made_afresh(16, (7, 6, 1))
        first = told_by(kept)
        for time in range(200):
            self.assertEqual(told_by(kept), first)


class ApartFromOthers(Checked):
    def test_two_kept_rows_do_not_touch_each_other(self):
        one, other = KeptRow(16), KeptRow(16)
        one.see(7)
        self.assertEqual(told_by(other), told_by(KeptRow(16)))
        other.see(3)
        other.see(3)
        one.see(6)
        one.see(1)
        with self.assertRaises(NoFit):
            other.see(1)
        other.take_back()
        self.assertEqual(told_by(one), told_by(made_afresh(16, (7, 6, 1))))
        self.assertEqual(told_by(other), told_by(made_afresh(16, (3,))))

    def test_what_was_told_stays(self):
        kept = made_afresh(16, (7, 6, 1))
        row, fit, guess = kept.row_now(), kept.fit_now(), kept.guess_now()
        kept.see(8)
        kept.take_back()
        kept.take_back()
        kept.see(7)
        self.assert_told((row, fit, guess), ((7, 6, 1), (5, 16), 8))

    def test_adding_to_what_was_told_changes_nothing(self):
        kept = made_afresh(16, (7, 6, 1))
        row, fit = kept.row_now(), kept.fit_now()
        row += (8, 9)
        fit += (3,)
        self.assertEqual(told_by(kept), kinds(((7, 6, 1), (5, 16), 8)))


class Interface(Checked):
    def test_each_method_stands_in_the_class_itself(self):
        for name in ("see", "take_back", "row_now", "fit_now", "guess_now"):
            self.assertTrue(inspect.isfunction(vars(KeptRow)[name]))

    def test_names_of_arguments(self):
        self.assert_names({KeptRow: ["bound"], KeptRow.see: ["self", "number"], KeptRow.take_back: ["self"],
                           KeptRow.row_now: ["self"], KeptRow.fit_now: ["self"], KeptRow.guess_now: ["self"]})

    def test_called_by_names(self):
        kept = KeptRow(bound=16)
        for number in (7, 6, 1):
            self.assertIsNone(kept.see(number=number))
        self.assertEqual(told_by(kept), kinds(((7, 6, 1), (5, 16), 8)))
        with self.assertRaises(NoNumber) as caught:
            kept.see(number=16)
        self.assertEqual(caught.exception.number, 16)


if __name__ == "__main__":
    unittest.main()
