"""Bakes that are worked on by and by, with a budget of so many days' leaves a day."""

from siltstore.checks import need_number
from siltstore.days import baked, day_made
from siltstore.errors import BadDay
from siltstore.pairs import times_baked
from siltstore.rules import need_rule

LAST = 3000


class InTime:
    """No bake is late; how many grades have a first one that is due."""

    def __init__(self, grades):
        self.grades = grades

    def __eq__(self, other):
        return isinstance(other, InTime) and self.grades == other.grades

    def __bool__(self):
        return True

    def shows(self, rule, budget, days):
        """Whether none is late with a budget up to a day, and so many grades have a first one that is due."""
        return self == judge_spread(rule, budget, days)


class Late:
    """The grade of the first bake that is late, and the day on which it is due."""

    def __init__(self, grade, day):
        self.grade = grade
        self.day = day

    def __eq__(self, other):
        return isinstance(other, Late) and self.grade == other.grade and self.day == other.day

    def __bool__(self):
        return False

    def shows(self, rule, budget, days):
        """Whether this is the first bake that is late with a budget up to a day."""
        return self == judge_spread(rule, budget, days)


def judge_spread(rule, budget, days):
    """An InTime if no bake that is due up to a day is late, otherwise a Late."""
    need_rule(rule)
    need_number(budget, 1)
    need_number(days)
    grades = _grades_due(rule, days)
    # While a bake of a grade lasts, each lesser grade brings just as much new work as there are days. So a budget as
    # great as the number of the grades is enough for them, and nothing of it is left for the next grade's first bake.
    if grades <= budget:
        return InTime(grades)
    return Late(budget, day_made(rule, budget + 1, 2))


def least_budget(rule, days):
    """The least budget with which no bake that is due up to a day is late."""
    need_rule(rule)
    need_number(days)
    return max(1, _grades_due(rule, days))


def left_over(rule, budget, day):
    """From grades to the work that is left of their bakes at the end of a day, if any is."""
    need_rule(rule)
    need_number(budget, 1)
    need_number(day)
    if day > LAST:
        raise BadDay("too late a day")
    left = []
    for today in range(1, day + 1):
        for grade in baked(rule, today):
            if grade == len(left):
                left.append(0)
            left[grade] += rule.size(grade + 1)
        left = _worked_on(left, budget)
    return {grade: work for grade, work in enumerate(left) if work}


def _worked_on(left, budget):
    """What is left of the work of the grades behind a day, lesser grades first."""
    found, spare = [], budget
    for work in left:
        done = min(spare, work)
        found.append(work - done)
        spare -= done
    return found


def _grades_due(rule, days):
    """How many grades have a first bake that is due up to a day: they have been baked once more."""
    grades, bakes = 0, times_baked(rule[0], days)
    while bakes >= 2:
        grades += 1
        bakes = times_baked(rule[grades], bakes)
    return grades
