"""The rounds of a rule: where its rows come round."""

from timesrow.rests import check_number, common_divisor
from timesrow.rules.steps import next_of


def walked_on(rule, start, places):
    """Give each new number of the row its place, in the order seen; told is the first one that has a place already."""
    number = start
    while number not in places:
        places[number] = len(places)
        number = next_of(rule, number)
    return number


def round_from(rule, start):
    """How many numbers stand ahead of the round from a start, and how many are in it."""
    check_number(start, rule[2])
    places = {}
    again = walked_on(rule, start, places)
    return (places[again], len(places) - places[again])


def all_rounds(rule):
    """Pairs of a length and how many rounds have it, rising."""
    places = {}
    rounds = {}
    for start in range(rule[2]):
        begun = len(places)
        again = walked_on(rule, start, places)
        # A walk that ends at a place of an earlier walk only leads into a round that is counted already.
        if places[again] >= begun:
            length = len(places) - places[again]
            rounds[length] = rounds.get(length, 0) + 1
    return tuple(sorted(rounds.items()))


def steps_to(rule, start, number):
    """The least number of steps from a start to a number, or None."""
    check_number(start, rule[2])
    check_number(number, rule[2])
    places = {}
    walked_on(rule, start, places)
    return places.get(number)


def is_one_round(rule):
    """Whether all numbers are in one round."""
    times, plus, bound = rule
    if common_divisor(plus, bound) != 1:
        return False
    if bound % 4 == 0 and times % 4 != 1:
        return False
    return has_each_prime_of(bound, (times - 1) % bound)


def has_each_prime_of(bound, number):
    """Whether each prime number that divides the bound divides the number."""
    # Dividing out what is shared needs no prime to be found, so a great bound is no trouble.
    left = bound
    shared = common_divisor(left, number)
    while shared != 1:
        left = left // shared
        shared = common_divisor(left, number)
    return left == 1
