"""What several tests need: rules one by one, rows gone through one by one, and a limit of time."""

import copy
import inspect
import signal
import unittest

from timesrow.errors import NoNumber


class TooLate(Exception):
    """An answer that is promised soon did not come."""


class Soon:
    """with Soon(): an answer that goes through a great bound one by one fails, and does not hang."""

    def __init__(self, seconds=5):
        self.seconds = seconds

    def __enter__(self):
        self.earlier = signal.signal(signal.SIGALRM, self.stop)
        signal.alarm(self.seconds)
        return self

    def __exit__(self, kind, value, trace):
        signal.alarm(0)
        signal.signal(signal.SIGALRM, self.earlier)

    def stop(self, number, frame):
        raise TooLate(f"no answer after {self.seconds} seconds")


def rules_to(most, least=1):
    """All rules of the bounds from the least one to the most one."""
    for bound in range(least, most + 1):
        for times in range(bound):
            for plus in range(bound):
                yield (times, plus, bound)


def nexts(rule):
    """The next one of each number, by its definition."""
    times, plus, bound = rule
    return [(times * number + plus) % bound for number in range(bound)]


def walked(table, start, steps):
    """Where so many steps lead to, one by one."""
    for step in range(steps):
        start = table[start]
    return start


def walk(table, start):
    """All numbers of the row from a start, until one comes again, and the place of that one."""
    row = [start]
    while table[row[-1]] not in row:
        row.append(table[row[-1]])
    return row, row.index(table[row[-1]])


def fitting(row, bound):
    """All rules of a bound that fit a row, by times and then by plus, each one tried."""
    return [(times, plus, bound) for times in range(bound) for plus in range(bound)
            if all((times * number + plus) % bound == later for number, later in zip(row, row[1:]))]


def kinds(thing):
    """The thing with each value's kind beside it, so that True is not taken for 1, nor a list for a tuple."""
    if isinstance(thing, (list, tuple)):
        return (type(thing), [kinds(part) for part in thing])
    return (type(thing), thing)


class Checked(unittest.TestCase):
    def assert_no_number(self, number, function, *handed):
        with self.assertRaises(NoNumber) as caught:
            function(*handed)
        self.assertEqual(kinds(caught.exception.number), kinds(number))

    def assert_told(self, told, expected):
        self.assertEqual(kinds(told), kinds(expected))

    def assert_names(self, named):
        """Each function has just these arguments, by these names."""
        for function, names in named.items():
            self.assertEqual(list(inspect.signature(function).parameters), names)

    def assert_same_again(self, asked):
        """Each question (function, what is handed in) is answered alike in any order, and changes nothing handed in."""
        before = copy.deepcopy([handed for function, handed in asked])
        first = [kinds(function(*handed)) for function, handed in asked]
        again = [kinds(function(*handed)) for function, handed in reversed(asked)]
        self.assertEqual(first, again[::-1])
        self.assertEqual(kinds([handed for function, handed in asked]), kinds(before))
