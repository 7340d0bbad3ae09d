"""Told back of parts seen, the whole times that a part goes into each number: starts and rules that fit."""

from timesrow.rests import check_number
from timesrow.rules.steps import next_of, row_from


def parts_from(rule, start, many, part):
    """The first so many parts seen of the row from a start on."""
    return tuple([number // part for number in row_from(rule, start, many)])


def starts_that_fit(rule, seen, part):
    """All starts whose rows show the parts seen, rising."""
    return tuple([start for start in range(rule[2]) if shows(rule, start, seen, part)])


def shows(rule, start, seen, part):
    """Whether the row from a start shows the parts seen."""
    number = start
    for shown in seen:
        if number // part != shown:
            return False
        number = next_of(rule, number)
    return True


def settled_at(rule, start, part):
    """By how many parts from a start it is told apart from all other starts; None where it never is."""
    check_number(start, rule[2])
    return least_parts(rule, part, lambda classes: classes.count(classes[start]) == 1)


def always_settled(rule, part):
    """By how many parts any two starts are told apart; None where two never are."""
    return least_parts(rule, part, lambda classes: how_many(classes) == len(classes))


def least_parts(rule, part, is_settled):
    """The least number of parts, from 0 on, whose classes of starts are settled as asked, or None."""
    leads_to = [next_of(rule, number) for number in range(rule[2])]
    # Starts of one class are not told apart yet: by no parts, all are in one.
    classes = [0 for number in leads_to]
    many = 0
    while not is_settled(classes):
        finer = by_one_part_more(classes, leads_to, part)
        # A step that tells no two more apart leaves the classes as they were, and so does each one behind it.
        if how_many(finer) == how_many(classes):
            return None
        classes = finer
        many += 1
    return many


def how_many(classes):
    """How many classes there are; they are counted up from 0."""
    return max(classes) + 1


def by_one_part_more(classes, leads_to, part):
    """The classes by one part more: by a start's own part, then by the class of the number that it leads to."""
    found = {}
    finer = []
    for number, following in enumerate(leads_to):
        told = (number // part, classes[following])
        finer.append(found.setdefault(told, len(found)))
    return finer


def rules_by_parts(bound, seen, part):
    """How many rules with a start, triples (times, plus, start), show the parts seen, and the first or None."""
    fitting = [(times, plus, start)
               for times in range(bound)
               for plus in range(bound)
               for start in starts_that_fit((times, plus, bound), seen, part)]
    return (len(fitting), fitting[0] if len(fitting) > 0 else None)
