import inspect
import random
import unittest

from tests.helpers import Checked, Soon, fitting, kinds, nexts, walk, walked
from timesrow.errors import NoAsk, NoBack, NoFit, NoNumber, NoRule, RowError
from timesrow.whole import Desk

GREAT = 10 ** 12
PRIME = 999999999989
# All lines that tell something, whatever was done before; of bounds to 2000 none of them is refused.
QUESTIONS = ("show", "next 0", "row 0 60", "jump 0 7", "round 0", "rounds", "one", "fits", "guess", "settled")
# Each line once, as it is taken behind READY.
READY = ("rule 5 3 16", "seen 7", "seen 6")
LINES = ("seen 1", "back", "show", "next 7", "row 7 4", "jump 7 3", "jump 7 -3", "round 7", "rounds", "one", "fits",
         "guess", "settled")
NUMBERED = ("seen 1", "next 7", "row 7 4", "jump 7 3", "jump 7 -3", "round 7")


def desk_of(*lines):
    desk = Desk()
    for line in lines:
        desk.ask(line)
    return desk


def told_by(desk):
    """All that a desk tells now; NoAsk where its bound is too great for a line."""
    told = []
    for line in QUESTIONS:
        try:
            told.append(kinds(desk.ask(line)))
        except NoAsk:
            told.append(NoAsk)
    return told


class Desked(Checked):
    def assert_asked(self, desk, line, *texts):
        self.assert_told(desk.ask(line), list(texts))

    def assert_refused(self, kind, desk, line):
        """Refused with this class, and nothing is changed by it."""
        before = told_by(desk)
        with self.assertRaises(RowError, msg=repr(line)) as caught:
            desk.ask(line)
        self.assertIs(type(caught.exception), kind, repr(line))
        self.assertIsInstance(caught.exception, ValueError)
        self.assertEqual(told_by(desk), before)
        return caught.exception

    def assert_number_refused(self, number, desk, line):
        self.assert_told(self.assert_refused(NoNumber, desk, line).number, number)


class AtFirst(Desked):
    def test_the_rule(self):
        self.assert_asked(Desk(), "show", "0 0 1")

    def test_the_kept_row(self):
        desk = Desk()
        self.assert_asked(desk, "fits", "any")
        self.assert_asked(desk, "guess", "none")
        self.assert_asked(desk, "settled", "none")
        self.assert_refused(NoFit, desk, "back")

    def test_its_bound_is_1(self):
        desk = Desk()
        self.assert_number_refused(1, desk, "seen 1")
        self.assert_number_refused(1, desk, "next 1")
        self.assert_asked(desk, "seen 0")
        self.assert_asked(desk, "fits", "any")
        self.assert_asked(desk, "guess", "none")
        self.assert_asked(desk, "settled", "none")
        self.assert_asked(desk, "seen 0")
        self.assert_asked(desk, "fits", "0 1")
        self.assert_asked(desk, "guess", "0")
        self.assert_asked(desk, "settled", "2")
        self.assert_asked(desk, "next 0", "0")
        self.assert_asked(desk, "row 0 3", "0 0 0")
        self.assert_asked(desk, "jump 0 -9999999999999999999", "0")
        self.assert_asked(desk, "round 0", "0 1")
        self.assert_asked(desk, "rounds", "1 1")
        self.assert_asked(desk, "one", "yes")


class EachLine(Desked):
    def test_rule_and_show(self):
        desk = Desk()
        for text in ("5 3 16", "0 0 1", "0 0 2", "1999 1999 2000", f"{GREAT - 1} 0 {GREAT}", "10 0 11"):
            self.assert_asked(desk, "rule " + text)
            self.assert_asked(desk, "show", text)

    def test_the_kept_row_begins_anew_with_its_bound(self):
        desk = desk_of("rule 5 3 16", "seen 7", "seen 6", "seen 1")
        self.assert_asked(desk, "rule 5 3 16")
        self.assert_asked(desk, "fits", "any")
        self.assert_refused(NoFit, desk, "back")
        self.assert_asked(desk, "seen 15")
        self.assert_asked(desk, "rule 1 1 4")
        self.assert_number_refused(15, desk, "seen 15")
        self.assert_asked(desk, "rule 1 1 20")
        self.assert_asked(desk, "seen 19")
        self.assertEqual(told_by(desk_of("rule 5 3 16", "seen 7", "rule 1 1 20", "seen 19")), told_by(desk))
        self.assertEqual(told_by(desk_of("rule 1 1 20", "seen 19")), told_by(desk))

    def test_seen_back_fits_guess_settled(self):
        desk = desk_of("rule 0 0 16")
        for line, fits, guess, settled in (
                ("seen 7", "any", "none", "none"), ("seen 6", "0 1", "none", "none"), ("seen 1", "5 16", "8", "3"),
                ("seen 8", "5 16", "11", "3"), ("back", "5 16", "8", "3"), ("back", "0 1", "none", "none"),
                ("back", "any", "none", "none"), ("back", "any", "none", "none"), ("seen 0", "any", "none", "none"),
                ("seen 4", "0 1", "none", "none"), ("seen 4", "0 4", "4", "none"), ("seen 4", "0 4", "4", "none")):
            self.assert_asked(desk, line)
            self.assert_asked(desk, "fits", fits)
            self.assert_asked(desk, "guess", guess)
            self.assert_asked(desk, "settled", settled)

    def test_the_kept_row_hangs_on_the_bound_alone(self):
        desk = desk_of("rule 1 1 16", "seen 7", "seen 6", "seen 1")
        self.assert_asked(desk, "guess", "8")
        self.assert_asked(desk, "next 1", "2")

    def test_next(self):
        desk = desk_of("rule 5 3 16")
        self.assert_asked(desk, "next 7", "6")
        self.assert_asked(desk, "next 0", "3")
        self.assert_asked(desk, "next 15", "14")

    def test_row(self):
        desk = desk_of("rule 5 3 16")
        self.assert_asked(desk, "row 7 4", "7 6 1 8")
        self.assert_asked(desk, "row 7 1", "7")
        told = desk.ask("row 7 60")
        self.assertEqual(len(told), 1)
        self.assertEqual([int(word) for word in told[0].split(" ")], [walked(nexts((5, 3, 16)), 7, n) for n in range(60)])

    def test_jump(self):
        desk = desk_of("rule 5 3 16")
        self.assert_asked(desk, "jump 7 0", "7")
        self.assert_asked(desk, "jump 7 1", "6")
        self.assert_asked(desk, "jump 6 -1", "7")
        self.assert_asked(desk, "jump 7 16", "7")
        self.assert_asked(desk, "jump 7 9999999999999999999", str(walked(nexts((5, 3, 16)), 7, 15)))
        self.assert_asked(desk, "jump 7 -9999999999999999999", "6")

    def test_round_and_rounds(self):
        desk = desk_of("rule 2 0 12")
        self.assert_asked(desk, "round 1", "2 2")
        self.assert_asked(desk, "round 0", "0 1")
        self.assert_asked(desk, "rounds", "1 1", "2 1")
        self.assert_asked(desk_of("rule 1 0 5"), "rounds", "1 5")
        self.assert_asked(desk_of("rule 3 0 10"), "rounds", "1 2", "4 2")

    def test_one(self):
        self.assert_asked(desk_of("rule 5 3 16"), "one", "yes")
        self.assert_asked(desk_of("rule 3 3 16"), "one", "no")
        self.assert_asked(desk_of("rule 5 2 16"), "one", "no")
        self.assert_asked(desk_of(f"rule 21 3 {GREAT}"), "one", "yes")
        self.assert_asked(desk_of(f"rule 11 3 {GREAT}"), "one", "no")

    def test_what_tells_nothing_tells_an_empty_list(self):
        desk = Desk()
        for line in ("rule 5 3 16", "seen 7", "back"):
            self.assert_told(desk.ask(line), [])

    def test_small_bounds_one_by_one(self):
        for bound in range(1, 7):
            for times, plus in ((times, plus) for times in range(bound) for plus in range(bound)):
                self.look_at((times, plus, bound))

    def look_at(self, rule):
        desk = desk_of("rule {} {} {}".format(*rule))
        table = nexts(rule)
        rounds = {}
        for start in range(rule[2]):
            row, tail = walk(table, start)
            self.assert_asked(desk, f"next {start}", str(table[start]))
            self.assert_asked(desk, f"row {start} 5", " ".join(str(walked(table, start, steps)) for steps in range(5)))
            self.assert_asked(desk, f"jump {start} 11", str(walked(table, start, 11)))
            self.assert_asked(desk, f"round {start}", f"{tail} {len(row) - tail}")
            rounds[frozenset(row[tail:])] = True
        lengths = sorted(len(one) for one in rounds)
        self.assert_asked(desk, "rounds", *[f"{length} {lengths.count(length)}" for length in sorted(set(lengths))])
        self.assert_asked(desk, "one", "yes" if lengths == [rule[2]] else "no")
        if sorted(table) == list(range(rule[2])):
            for start in range(rule[2]):
                self.assert_asked(desk, f"jump {table[start]} -1", str(start))

    def test_great_bounds(self):
        with Soon():
            desk = desk_of(f"rule {GREAT - 1} {GREAT - 1} {GREAT}")
            self.assert_asked(desk, "next 0", str(GREAT - 1))
            self.assert_asked(desk, "row 0 3", f"0 {GREAT - 1} 0")
            self.assert_asked(desk, "jump 5 9999999999999999999", str(GREAT - 6))
            self.assert_asked(desk, "jump 5 -9999999999999999999", str(GREAT - 6))
            for number in (0, 1, GREAT - 1):
                self.assert_asked(desk, f"seen {number}")
            self.assert_asked(desk, "fits", f"{GREAT - 2} {GREAT}")
            self.assert_asked(desk, "guess", "3")
            self.assert_asked(desk, "settled", "3")
            desk = desk_of(f"rule 2 1 {PRIME}", "seen 0", "seen 1", "seen 3")
            self.assert_asked(desk, "fits", f"2 {PRIME}")
            self.assert_asked(desk, "guess", "7")
            self.assert_asked(desk, "jump 7 -3", "0")

    def test_rounds_of_bounds_to_2000(self):
        with Soon():
            desk = desk_of("rule 1 1 2000")
            self.assert_asked(desk, "round 1999", "0 2000")
            self.assert_asked(desk, "rounds", "2000 1")
            desk = desk_of("rule 10 0 2000")
            self.assert_asked(desk, "rounds", "1 1")
            self.assert_asked(desk, "round 1", "4 1")


class Refused(Desked):
    def ready(self):
        return desk_of(*READY)

    def test_each_line_as_it_is_is_taken(self):
        for line in LINES:
            self.ready().ask(line)

    def test_other_lines(self):
        for line in ("", " ", "  ", "\n", "ask", "rul 1 1 4", "rules", "rule", "ruled 1 1 4", "5 3 16", "7", "shows",
                     "show me", "Show", "SHOW", "none", "any", "row", "jump", "next", "seen", "round 1 2", "back 1",
                     "one 1", "see 1", "guess 0", "fits 3", "settled 2", "~", "-", "NUMBER", "seen NUMBER", "\trule 1 1 4",
                     "show;show", "show\nshow", "show\n", "\nshow", "rule\n1 1 4", "rule\t1 1 4"):
            self.assert_refused(NoAsk, self.ready(), line)

    def test_a_word_too_few(self):
        for line in LINES:
            words = line.split(" ")
            for place in range(len(words)):
                spoilt = " ".join(words[:place] + words[place + 1:])
                self.assert_refused(NoAsk, self.ready(), spoilt)

    def test_a_word_too_many(self):
        for line in LINES:
            words = line.split(" ")
            for place in range(len(words) + 1):
                for more in ("1", "show", "seen", "-1", "x"):
                    spoilt = " ".join(words[:place] + [more] + words[place:])
                    self.assert_refused(NoAsk, self.ready(), spoilt)

    def test_a_blank_too_many_at_any_place(self):
        for line in LINES:
            for place in range(len(line) + 1):
                self.assert_refused(NoAsk, self.ready(), line[:place] + " " + line[place:])

    def test_an_empty_word_at_any_place(self):
        for line in LINES:
            words = line.split(" ")
            for place in range(len(words)):
                self.assert_refused(NoAsk, self.ready(), " ".join(words[:place] + [""] + words[place + 1:]))

    def test_another_sign_at_any_place(self):
        for line in LINES:
            for place in range(len(line) + 1):
                for sign in "\nx_.,+~-'":
                    spoilt = line[:place] + sign + line[place:]
                    # - ahead of the steps is a fine line.
                    if spoilt != "jump 7 -3":
                        self.assert_refused(NoAsk, self.ready(), spoilt)

    def test_a_sign_too_few_at_any_place(self):
        for line in LINES:
            for place in range(len(line)):
                spoilt = line[:place] + line[place + 1:]
                # `jump 7 3` is a fine line, too; `round` without its number and `rounds` without s are none.
                if spoilt != "jump 7 3":
                    self.assert_refused(NoAsk, self.ready(), spoilt)

    def test_capitals(self):
        for line in LINES:
            for place in range(len(line)):
                if line[place].isalpha():
                    spoilt = line[:place] + line[place].upper() + line[place + 1:]
                    self.assert_refused(NoAsk, self.ready(), spoilt)

    def with_each_number(self, make):
        """Each line with one of its numbers made another word."""
        for line in NUMBERED:
            words = line.split(" ")
            for place in range(1, len(words)):
                yield " ".join(words[:place] + [make(words[place])] + words[place + 1:])

    def test_a_nought_ahead(self):
        for noughts in ("0", "00"):
            for line in self.with_each_number(lambda word: "-" * (word[0] == "-") + noughts + word.lstrip("-")):
                self.assert_refused(NoAsk, self.ready(), line)
        for line in self.with_each_number(lambda word: "00"):
            self.assert_refused(NoAsk, self.ready(), line)

    def test_twenty_figures(self):
        for figures in ("1" + "0" * 19, "9" * 20, "1" * 21, "7" * 390):
            for line in self.with_each_number(lambda word: "-" * (word[0] == "-") + figures):
                self.assert_refused(NoAsk, self.ready(), line)

    def test_nineteen_figures_are_a_number(self):
        number = 9999999999999999999
        desk = self.ready()
        for line in (f"seen {number}", f"next {number}", f"round {number}", f"row {number} 3", f"jump {number} 3",
                     f"jump {number} -{number}"):
            self.assert_number_refused(number, desk, line)
        self.assert_asked(desk, f"jump 7 {number}", "4")

    def test_what_is_no_number(self):
        for word in ("", "x", "1x", "x1", "1.0", "1e3", "+1", "--1", "1-", "-", "1_0", "0x1", "1,0", "~", "none", "\n",
                     "1\n", "\n1", "1\n1", "'1'", "- 1"):
            for line in self.with_each_number(lambda old: word):
                self.assert_refused(NoAsk, self.ready(), line)

    def test_numbers_below_0_are_none_but_for_steps(self):
        for line in ("seen -1", "next -7", "row -7 4", "row 7 -4", "jump -7 3", "jump -7 -3", "round -7", "seen -0",
                     "next -0", "round -0", "jump -0 3"):
            self.assert_refused(NoAsk, self.ready(), line)

    def test_steps(self):
        for word in ("-0", "-", "--3", "-03", "-00", "+3", "03", "3-", "- 3", "-" + "1" * 20, "1" * 20):
            self.assert_refused(NoAsk, self.ready(), "jump 7 " + word)

    def test_how_many(self):
        desk = self.ready()
        for word in ("0", "61", "62", "100", "9999999999999999999", "060", "-1", "01"):
            self.assert_refused(NoAsk, desk, "row 7 " + word)
        for many in (1, 2, 59, 60):
            self.assertEqual(len(desk.ask(f"row 7 {many}")[0].split(" ")), many)

    def test_bounds_above_2000(self):
        for bound in (2001, 2002, 10 ** 6, GREAT):
            desk = desk_of(f"rule 1 1 {bound}")
            with Soon():
                self.assert_refused(NoAsk, desk, "round 1")
                self.assert_refused(NoAsk, desk, "round 0")
                self.assert_refused(NoAsk, desk, "rounds")
                self.assert_asked(desk, "one", "yes")
        desk_of("rule 1 1 2000").ask("rounds")
        desk_of("rule 1 1 2000").ask("round 1999")

    def test_a_61st_number(self):
        desk = desk_of("rule 1 1 100")
        for number in range(59):
            self.assert_asked(desk, f"seen {number}")
        self.assert_refused(NoFit, desk, "seen 58")
        self.assert_asked(desk, "seen 59")
        for line in ("seen 60", "seen 58", "seen 0", "seen 100", "seen 9999999999999999999"):
            self.assert_refused(NoAsk, desk, line)
        self.assert_asked(desk, "guess", "60")
        self.assert_asked(desk, "settled", "3")
        self.assert_asked(desk, "back")
        self.assert_refused(NoFit, desk, "seen 58")
        self.assert_number_refused(100, desk, "seen 100")
        self.assert_asked(desk, "seen 59")
        self.assert_refused(NoAsk, desk, "seen 60")
        self.assert_asked(desk, "rule 1 1 100")
        self.assert_asked(desk, "seen 60")

    def test_rules_that_are_none(self):
        fine = "5 3 16"
        spoilt = ["", " ", fine + " ", " " + fine, "5  3 16", "5 3  16", "5 3", "5", "5 3 16 1", "05 3 16", "5 03 16",
                  "5 3 016", "00 0 1", "-5 3 16", "5 -3 16", "5 3 -16", "16 3 16", "5 16 16", "17 3 16", "0 0 0", "1 0 1",
                  "0 1 1", "5,3,16", "5 3 x", "x 3 16", "5 3 16\n", "\n5 3 16", "5\n3\n16", "5 3\n16", "5.0 3 16",
                  "+5 3 16", "rule 5 3 16", "show", "5 3 1_6", "5 3 16 \n", "~", "a" * 390]
        for text in spoilt:
            self.assert_refused(NoRule, self.ready(), "rule " + text)

    def test_rules_spoilt_at_any_place(self):
        fine = "5 3 16"
        for place in range(len(fine) + 1):
            for sign in " \nx-+.,_~":
                self.assert_refused(NoRule, self.ready(), "rule " + fine[:place] + sign + fine[place:])

    def test_rule_with_a_blank_is_refused_by_the_rule_alone(self):
        # Twenty figures, too, are a matter of the rule: times above the bound.
        self.assert_refused(NoRule, self.ready(), "rule " + "1" * 20 + " 3 16")
        self.assert_refused(NoRule, self.ready(), "rule 5 3 " + "0" * 20)
        self.assert_refused(NoRule, self.ready(), "rule ")
        self.assert_refused(NoRule, self.ready(), "rule  ")
        self.assert_refused(NoAsk, self.ready(), "rule")
        self.assert_refused(NoAsk, self.ready(), " rule 5 3 16")
        self.assert_refused(NoAsk, self.ready(), " rule ")

    def test_numbers_of_the_rule_alone(self):
        desk = self.ready()
        for line in ("seen 16", "next 16", "row 16 4", "jump 16 3", "jump 16 -3", "round 16"):
            self.assert_number_refused(16, desk, line)

    def test_no_back(self):
        desk = desk_of("rule 6 1 16", "seen 3")
        for line in ("jump 3 -1", "jump 0 -9999999999999999999"):
            self.assert_refused(NoBack, desk, line)
        self.assert_asked(desk, "jump 3 1", "3")
        self.assert_asked(desk, "jump 3 0", "3")

    def test_no_fit(self):
        desk = desk_of("rule 5 3 16", "seen 3", "seen 3")
        for number in (0, 2, 4, 15):
            self.assert_refused(NoFit, desk, f"seen {number}")
        self.assert_refused(NoFit, Desk(), "back")
        self.assert_refused(NoFit, desk_of("rule 5 3 16", "seen 3", "back"), "back")


class WhichIsFirst(Desked):
    def test_no_ask_ahead_of_no_number(self):
        desk = desk_of("rule 5 3 16", "seen 3", "seen 3")
        for line in ("row 16 0", "row 16 61", "row 16 x", "jump 16 -0", "jump 16 x", "next 16 1", "round 16 1", "seen 16 1"):
            self.assert_refused(NoAsk, desk, line)
        desk = desk_of("rule 5 3 2001")
        self.assert_refused(NoAsk, desk, "round 2001")
        self.assert_refused(NoAsk, desk, "round 9999999999999999999")

    def test_no_ask_ahead_of_no_fit(self):
        desk = desk_of("rule 5 3 16", "seen 3", "seen 3")
        self.assert_refused(NoAsk, desk, "seen 04")
        desk = desk_of("rule 0 3 16", *["seen 3"] * 60)
        self.assert_refused(NoAsk, desk, "seen 4")
        self.assert_refused(NoAsk, desk, "seen 16")
        self.assert_refused(NoAsk, Desk(), "back 1")

    def test_no_ask_ahead_of_no_back(self):
        desk = desk_of("rule 6 1 16")
        self.assert_refused(NoAsk, desk, "jump 3 -" + "1" * 20)
        self.assert_refused(NoAsk, desk, "jump 3 -01")
        self.assert_refused(NoAsk, desk, "jump 16 -01")

    def test_no_number_ahead_of_no_back_and_no_fit(self):
        self.assert_number_refused(16, desk_of("rule 6 1 16"), "jump 16 -1")
        self.assert_number_refused(16, desk_of("rule 6 1 16", "seen 3", "seen 3"), "seen 16")

    def test_under_which_classes_they_stand(self):
        desk = desk_of("rule 6 1 16", "seen 3", "seen 3")
        for line, kind in (("x", NoAsk), ("rule x", NoRule), ("next 16", NoNumber), ("jump 3 -1", NoBack),
                           ("seen 4", NoFit)):
            refusal = self.assert_refused(kind, desk, line)
            for other in (NoAsk, NoRule, NoNumber, NoBack, NoFit):
                self.assertEqual(isinstance(refusal, other), other == kind)


class ComingsAndGoings(Desked):
    def test_120_deeds(self):
        chance = random.Random(20)
        for bounds in ((1, 2, 3), (4, 6, 8), (9, 12), (16,)):
            desk, rule, row = Desk(), (0, 0, 1), ()
            for deed in range(120):
                rule, row = self.one_deed(chance, desk, rule, row, bounds)
                self.assertEqual(told_by(desk), self.told_afresh(rule, row))

    def one_deed(self, chance, desk, rule, row, bounds):
        """One deed, taken or refused; told are the rule and the numbers that the desk is to keep then."""
        choice = chance.randrange(20)
        if choice == 0:
            bound = chance.choice(bounds)
            rule = (chance.randrange(bound), chance.randrange(bound), bound)
            self.assert_asked(desk, "rule {} {} {}".format(*rule))
            return rule, ()
        if choice < 4:
            if row:
                self.assert_asked(desk, "back")
            else:
                self.assert_refused(NoFit, desk, "back")
            return rule, row[:-1]
        number = chance.randrange(rule[2] + 2)
        if choice > 8 and len(row) > 1:
            times, plus, bound = chance.choice(fitting(row, rule[2]))
            number = (times * row[-1] + plus) % bound
        if number >= rule[2]:
            self.assert_number_refused(number, desk, f"seen {number}")
        elif not fitting(row + (number,), rule[2]):
            self.assert_refused(NoFit, desk, f"seen {number}")
        else:
            self.assert_asked(desk, f"seen {number}")
            return rule, row + (number,)
        return rule, row

    def told_afresh(self, rule, row):
        return told_by(desk_of("rule {} {} {}".format(*rule), *[f"seen {number}" for number in row]))

    def test_questions_change_nothing(self):
        desk = desk_of(*READY)
        first = told_by(desk)
        for time in range(50):
            self.assertEqual(told_by(desk), first)
        for line in reversed(QUESTIONS):
            desk.ask(line)
        self.assertEqual(told_by(desk), first)


class ApartFromOthers(Desked):
    def test_two_desks_do_not_touch_each_other(self):
        one, other = Desk(), Desk()
        one.ask("rule 5 3 16")
        self.assertEqual(told_by(other), told_by(Desk()))
        other.ask("rule 5 3 16")
        one.ask("seen 7")
        other.ask("seen 3")
        other.ask("seen 3")
        one.ask("seen 6")
        self.assert_refused(NoFit, other, "seen 4")
        other.ask("back")
        self.assertEqual(told_by(one), told_by(desk_of("rule 5 3 16", "seen 7", "seen 6")))
        self.assertEqual(told_by(other), told_by(desk_of("rule 5 3 16", "seen 3")))
        self.assert_asked(Desk(), "show", "0 0 1")

    def test_told_lists_that_are_changed_change_nothing(self):
        desk = desk_of("rule 2 0 12", "seen 1", "seen 2", "seen 4")
        first = told_by(desk)
        for line in QUESTIONS + ("back", "seen 4", "rule 2 0 12", "seen 1", "seen 2", "seen 4"):
            told = desk.ask(line)
            told.append("more")
            told[0] = "other"
        self.assertEqual(told_by(desk), first)
        self.assert_asked(desk, "back")
        self.assert_asked(desk, "seen 4")
        self.assert_asked(desk, "rule 2 0 12")

    def test_what_was_told_stays(self):
        desk = desk_of("rule 2 0 12", "seen 1", "seen 2", "seen 4")
        held = [desk.ask(line) for line in QUESTIONS]
        before = kinds(held)
        for line in ("seen 8", "back", "back", "rule 5 3 16", "seen 7"):
            desk.ask(line)
        told_by(desk)
        self.assertEqual(kinds(held), before)


class Interface(Desked):
    def test_the_method_stands_in_the_class_itself(self):
        self.assertTrue(inspect.isfunction(vars(Desk)["ask"]))

    def test_names_of_arguments(self):
        self.assert_names({Desk: [], Desk.ask: ["self", "line"]})

    def test_called_by_names(self):
        desk = Desk()
        self.assert_told(desk.ask(line="rule 5 3 16"), [])
        self.assert_told(desk.ask(line="show"), ["5 3 16"])
        with self.assertRaises(NoAsk):
            desk.ask(line="shows")


if __name__ == "__main__":
    unittest.main()
