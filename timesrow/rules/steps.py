"""A rule (times, plus, bound): its text, and the steps of its rows, ahead and back."""

from timesrow.errors import NoBack, NoRule
from timesrow.rests import check_number, common_divisor, inverse

FIGURES = "0123456789"


def is_figures(word):
    """Whether a word is a number in figures without a nought ahead."""
    # Not isdigit, which takes figures of other scripts too.
    if word == "" or not all(sign in FIGURES for sign in word):
        return False
    return word == "0" or word[0] != "0"


def read_rule(text):
    """The rule that a text TIMES PLUS BOUND tells."""
    words = text.split(" ") if isinstance(text, str) else []
    if len(words) != 3 or not all(is_figures(word) for word in words):
        raise NoRule("a rule is written TIMES PLUS BOUND, in figures, parted by single blanks")
    times, plus, bound = int(words[0]), int(words[1]), int(words[2])
    # A bound of 0 is refused here too, for nothing is below it.
    if times >= bound or plus >= bound:
        raise NoRule("times and plus of a rule are below its bound")
    return (times, plus, bound)


def rule_shown(rule):
    """The text of a rule."""
    times, plus, bound = rule
    return f"{times} {plus} {bound}"


def next_of(rule, number):
    """The next number of a number."""
    times, plus, bound = rule
    check_number(number, bound)
    return (times * number + plus) % bound


def row_from(rule, start, many):
    """The first so many numbers of the row from a start on."""
    check_number(start, rule[2])
    row = []
    number = start
    for place in range(many):
        row.append(number)
        number = next_of(rule, number)
    return tuple(row)


def jumped(rule, start, steps):
    """The number that so many steps lead to from a start, below 0 back."""
    check_number(start, rule[2])
    if steps < 0:
        return next_of(rule_of_steps(rule_back(rule), -steps), start)
    return next_of(rule_of_steps(rule, steps), start)


def rule_back(rule):
    """The rule whose one step undoes one step of a rule."""
    times, plus, bound = rule
    if common_divisor(times, bound) != 1:
        raise NoBack("times and bound have a common divisor: no step leads back")
    undone = inverse(times, bound)
    return (undone, -undone * plus % bound, bound)


def rule_of_steps(rule, steps):
    """The rule whose one step is so many steps of a rule."""
    bound = rule[2]
    # By bound 1 the times that changes nothing is 0, the only number there.
    done = (1 % bound, 0, bound)
    doubled = rule
    left = steps
    while left > 0:
        if left & 1 == 1:
            done = chained(done, doubled)
        doubled = chained(doubled, doubled)
        left = left // 2
    return done


def chained(first, second):
    """The rule whose one step is a step of the first rule and then one of the second; they have one bound."""
    times, plus, bound = first
    more_times, more_plus = second[0], second[1]
    return (more_times * times % bound, (more_times * plus + more_plus) % bound, bound)


def before(rule, number):
    """How many numbers have a number as their next one, and the least of them or None."""
    times, plus, bound = rule
    check_number(number, bound)
    shared = common_divisor(times, bound)
    if (number - plus) % shared != 0:
        return (0, None)
    # Divided by what times and bound share, just one rest is left, and it stands again at each such bound.
    apart = bound // shared
    least = (number - plus) // shared * inverse(times // shared, apart) % apart
    return (shared, least)
