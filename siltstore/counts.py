"""How many layers lie there: on a day, at most and at least."""

from siltstore.checks import need_number
from siltstore.days import day_made, day_of, digits, made
from siltstore.pairs import greatest_digit, least_digit
from siltstore.rules import need_rule


class Most:
    """The greatest number of layers on the days up to a last one, and the first day with it."""

    def __init__(self, number, day):
        self.number = number
        self.day = day

    def __eq__(self, other):
        return isinstance(other, Most) and self.number == other.number and self.day == other.day

    def shows(self, rule, last):
        """Whether the number and the day are those of a rule and a last day."""
        return self == most(rule, last)


class Fewest:
    """The least number of layers on the days from a first one on, and the first such day from there on."""

    def __init__(self, number, day):
        self.number = number
        self.day = day

    def __eq__(self, other):
        return isinstance(other, Fewest) and self.number == other.number and self.day == other.day

    def shows(self, rule, first):
        """Whether the number and the day are those of a rule and a first day."""
        return self == fewest(rule, first)


def count(rule, day):
    """How many layers lie there on a day."""
    return sum(digits(rule, day))


def first_with(rule, many):
    """The first day with at least so many layers."""
    need_rule(rule)
    need_number(many)
    told, left = [], many
    # Layers of lesser grades cost fewer days, so each grade is full ahead of the next one.
    while left:
        digit = min(left, greatest_digit(rule[len(told)]))
        told.append(digit)
        left -= digit
    return day_of(rule, told)


def most(rule, last):
    """The greatest number of layers up to a last day."""
    need_rule(rule)
    need_number(last)
    number, grade, days, left = 0, 0, 1, last
    # A day with more layers than all ahead of it has its lesser grades full, as in first_with: this is the last such.
    while left >= days:
        pair = rule[grade]
        digit = min(left // days, greatest_digit(pair))
        number += digit
        left -= digit * days
        grade += 1
        days *= pair[1]
    return Most(number, last - left)


def greatest_number(rule, last):
    """The number of most, for files in which something else is called most."""
    return most(rule, last).number


def fewest(rule, first):
    """The least number of layers from a first day on."""
    told = digits(rule, first)
    number, best = sum(told), None
    above, least = number, 0
    # A later day has more layers in the greatest grade in which it differs: at best one more, and as few as can be
    # below. So it is on the day on which this grade gets its next layer, unless the grade is full, and baked then.
    for grade, digit in enumerate([*told, 0]):
        pair = rule[grade]
        above -= digit
        if digit < greatest_digit(pair) and above + digit + 1 + least < number:
            number, best = above + digit + 1 + least, grade
        least += least_digit(pair)
    if best is None:
        return Fewest(number, first)
    return Fewest(number, day_made(rule, best, made(rule, best, first) + 1))
