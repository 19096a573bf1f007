"""What lies there on each day: the day, written in digits of the rule."""

from siltstore.checks import need_number
from siltstore.errors import BadDigits
from siltstore.pairs import is_digit, times_baked
from siltstore.rules import need_rule


def digits(rule, day):
    """The numbers of layers of the grades 0, 1, .. that lie there on a day."""
    need_rule(rule)
    need_number(day)
    told, grade, many = [], 0, day
    while many:
        bakes = times_baked(rule[grade], many)
        told.append(many - bakes * rule[grade][1])
        many = bakes
        grade += 1
    return told


def day_of(rule, told):
    """The day with told digits."""
    need_rule(rule)
    if not isinstance(told, (list, tuple)):
        raise BadDigits(None)
    day, days = 0, 1
    for grade, digit in enumerate(told):
        pair = rule[grade]
        if not is_digit(pair, digit, grade == len(told) - 1):
            raise BadDigits(grade)
        day += digit * days
        days *= pair[1]
    return day


def each_day(rule, *, first=1):
    """Generate the digits of the days from a first one on, without an end."""
    told = digits(rule, first)
    while True:
        # The caller may change what it gets.
        yield list(told)
        told = _behind(rule, told)


def layers(rule, day):
    """The first day, the last day and the grade of each layer, from the ground up."""
    told = digits(rule, day)
    found, first = [], 1
    days = rule.size(len(told))
    for grade in reversed(range(len(told))):
        days //= rule[grade][1]
        for _ in range(told[grade]):
            found.append((first, first + days - 1, grade))
            first += days
    return found


def made(rule, grade, day):
    """How many layers of a grade there have been up to a day."""
    need_rule(rule)
    need_number(grade)
    need_number(day)
    lesser, many = 0, day
    while many and lesser < grade:
        many = times_baked(rule[lesser], many)
        lesser += 1
    return many


def day_made(rule, grade, many):
    """The least day up to which there have been so many layers of a grade."""
    need_rule(rule)
    need_number(grade)
    need_number(many)
    if many == 0:
        return 0
    return rule.owed(grade) + many * rule.size(grade)


def baked(rule, day):
    """The grades that are baked on a day, ascending."""
    need_rule(rule)
    need_number(day)
    grades, many = [], day
    # A grade is baked if the last one of its layers, which is new, fills it up.
    while times_baked(rule[len(grades)], many) > times_baked(rule[len(grades)], many - 1):
        many = times_baked(rule[len(grades)], many)
        grades.append(len(grades))
    return grades


def next_baked(rule, grade, day):
    """The first day behind a day on which a grade is baked."""
    need_rule(rule)
    need_number(grade)
    # Each bake makes a layer of the next grade, and nothing else does.
    return day_made(rule, grade + 1, made(rule, grade + 1, day) + 1)


def _behind(rule, told):
    """The digits of the day behind the one with told digits."""
    found, grade = [*told, 0], 0
    found[0] += 1
    while found[grade] == rule[grade][0]:
        found[grade] -= rule[grade][1]
        grade += 1
        found[grade] += 1
    return found if found[-1] else found[:-1]
