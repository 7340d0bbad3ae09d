"""The desk: a rule and a kept row of its bound, asked by lines."""

from timesrow.errors import NoAsk
from timesrow.kept import KeptRow
from timesrow.rules.rounds import all_rounds, is_one_round, round_from
from timesrow.rules.steps import is_figures, jumped, next_of, read_rule, row_from, rule_shown
from timesrow.told.fits import settled_by

MOST_FIGURES = 19
MOST_NUMBERS = 60
MOST_SMALL_BOUND = 2000
RULE_HEAD = "rule "


def read_number(word):
    """The number that a word has in figures."""
    if not is_figures(word) or len(word) > MOST_FIGURES:
        raise NoAsk("a number is written in figures, at most nineteen, without a nought ahead")
    return int(word)


def read_many(word):
    """How many numbers of a row a word asks for."""
    many = read_number(word)
    if many < 1 or many > MOST_NUMBERS:
        raise NoAsk("a row is told of 1 to 60 numbers")
    return many


def read_steps(word):
    """The steps that a word has, with - ahead where they are below 0."""
    if not word.startswith("-"):
        return read_number(word)
    steps = read_number(word[1:])
    # 0 is not below 0, so nothing stands ahead of it.
    if steps == 0:
        raise NoAsk("no - stands ahead of 0")
    return -steps


READERS = {"NUMBER": read_number, "START": read_number, "MANY": read_many, "STEPS": read_steps}
# What stands behind the first word of each line. A line of RULE_HEAD is not read by words, so it is not among them.
LINES = {
    "seen": ("NUMBER",),
    "back": (),
    "show": (),
    "next": ("NUMBER",),
    "row": ("START", "MANY"),
    "jump": ("START", "STEPS"),
    "round": ("START",),
    "rounds": (),
    "one": (),
    "fits": (),
    "guess": (),
    "settled": (),
}


def read_word(kind, word):
    """The number that a word of a line tells, by what stands at its place."""
    reader = READERS[kind]
    return reader(word)


def read_line(words):
    """The numbers behind the first word of a line."""
    if words[0] not in LINES or len(words) != 1 + len(LINES[words[0]]):
        raise NoAsk("no such line")
    return [read_word(kind, word) for kind, word in zip(LINES[words[0]], words[1:])]


def shown_or_none(number):
    """The text of a number, or of none."""
    return "none" if number is None else str(number)


def check_small(rule):
    """Refuse a rule whose rounds are not gone through."""
    if rule[2] > MOST_SMALL_BOUND:
        raise NoAsk("rounds are told of bounds to 2000")


def do_seen(desk, numbers):
    """One more number is seen; told is nothing."""
    if len(desk.kept.row_now()) >= MOST_NUMBERS:
        raise NoAsk("60 numbers are kept at most")
    desk.kept.see(numbers[0])
    return []


def do_back(desk, numbers):
    """The last number seen is taken back; told is nothing."""
    desk.kept.take_back()
    return []


def tell_rule(desk, numbers):
    """The rule."""
    return [rule_shown(desk.rule)]


def tell_next(desk, numbers):
    """The next number of a number."""
    return [str(next_of(desk.rule, numbers[0]))]


def tell_row(desk, numbers):
    """So many numbers from a start on, in one text."""
    start, many = numbers
    return [" ".join([str(number) for number in row_from(desk.rule, start, many)])]


def tell_jump(desk, numbers):
    """The number that so many steps lead to from a start."""
    start, steps = numbers
    return [str(jumped(desk.rule, start, steps))]


def tell_round(desk, numbers):
    """The tail and the length of the round from a start."""
    check_small(desk.rule)
    tail, length = round_from(desk.rule, numbers[0])
    return [f"{tail} {length}"]


def tell_rounds(desk, numbers):
    """Each length of rounds, and how many rounds have it."""
    check_small(desk.rule)
    return [f"{length} {many}" for length, many in all_rounds(desk.rule)]


def tell_one(desk, numbers):
    """Whether all numbers are in one round."""
    return ["yes" if is_one_round(desk.rule) else "no"]


def tell_fits(desk, numbers):
    """The least times and the step of the rules that fit the kept row."""
    fit = desk.kept.fit_now()
    if fit is None:
        return ["any"]
    least, step = fit
    return [f"{least} {step}"]


def tell_guess(desk, numbers):
    """The number behind the kept row."""
    return [shown_or_none(desk.kept.guess_now())]


def tell_settled(desk, numbers):
    """By how many of the numbers seen the rule of the kept row is settled."""
    row = desk.kept.row_now()
    if len(row) < 2:
        return ["none"]
    return [shown_or_none(settled_by(row, desk.rule[2]))]


ACTIONS = {
    "seen": do_seen,
    "back": do_back,
    "show": tell_rule,
    "next": tell_next,
    "row": tell_row,
    "jump": tell_jump,
    "round": tell_round,
    "rounds": tell_rounds,
    "one": tell_one,
    "fits": tell_fits,
    "guess": tell_guess,
    "settled": tell_settled,
}


class Desk:
    """A rule, and a kept row of its bound."""

    def __init__(self):
        self.rule = (0, 0, 1)
        self.kept = KeptRow(1)

    def ask(self, line):
        """What a line tells, a list of texts."""
        if line.startswith(RULE_HEAD):
            self.take_rule(line[len(RULE_HEAD):])
            return []
        words = line.split(" ")
        numbers = read_line(words)
        action = ACTIONS[words[0]]
        return action(self, numbers)

    def take_rule(self, text):
        """The rule of a text, and a kept row that begins anew."""
        self.rule = read_rule(text)
        self.kept = KeptRow(self.rule[2])
