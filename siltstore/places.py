"""Where each day lies, and what is worked."""

from siltstore.checks import need_number
from siltstore.days import baked, day_made, digits, made
from siltstore.errors import BadDay
from siltstore.pairs import times_baked
from siltstore.rules import need_rule


def place(rule, day, now):
    """The grade of the layer in which a day lies on another one, and its number from the ground up."""
    need_rule(rule)
    need_number(day, 1)
    need_number(now)
    if day > now:
        raise BadDay("a day lies nowhere ahead of itself")
    told = digits(rule, now)
    grade, number, below = len(told) - 1, 0, day - 1
    days = rule.size(grade)
    while below >= told[grade] * days:
        number += told[grade]
        below -= told[grade] * days
        grade -= 1
        days //= rule[grade][1]
    return grade, number + below // days


def day_in(rule, day, grade):
    """The first day on which a day lies in a layer of at least a grade."""
    need_rule(rule)
    need_number(day, 1)
    need_number(grade)
    # The layers of a grade are made in the order of their days, all of one size.
    return day_made(rule, grade, (day - 1) // rule.size(grade) + 1)


def stay(rule, day, grade):
    """The first and the last day on which a day lies in a layer of a grade, None if it never does."""
    first, behind = day_in(rule, day, grade), day_in(rule, day, grade + 1)
    # A layer that fills its grade up is baked on the very day on which it is made.
    return None if first == behind else (first, behind - 1)


def together(rule, day, other):
    """The first day on which two days lie in the same layer."""
    need_rule(rule)
    need_number(day, 1)
    need_number(other, 1)
    grade, one, two = 0, day - 1, other - 1
    while one != two:
        many = rule[grade][1]
        one, two = one // many, two // many
        grade += 1
    return day_made(rule, grade, one + 1)


def work(rule, day):
    """The sum, over all bakes up to a day, of the days that lie in the new layer."""
    need_rule(rule)
    need_number(day)
    total, days, grade, many = 0, 1, 0, day
    while many:
        pair = rule[grade]
        many = times_baked(pair, many)
        days *= pair[1]
        total += many * days
        grade += 1
    return total


def work_on(rule, day):
    """The sum, over the bakes of a day, of the days that lie in the new layer."""
    total, days = 0, 1
    for grade in baked(rule, day):
        days *= rule[grade][1]
        total += days
    return total


def hardest(rule, day):
    """The first day up to a day with the greatest work, None if nothing is baked."""
    greatest = len(digits(rule, day)) - 1
    # With a grade all lesser ones are baked, so nothing is more work than a layer of the greatest grade.
    return day_made(rule, greatest, 1) if greatest > 0 else None


def resting(rule, day):
    """On how many days from 1 up to a day nothing is baked."""
    # A day bakes something just if it bakes the grade 0, and this at most once.
    return day - made(rule, 1, day)
