"""Calendars: sets of days, told by machines that read the digits of a day from the grade 0 up."""

from siltstore.checks import is_whole, need_number
from siltstore.days import day_of, digits
from siltstore.errors import BadDay, Unlike
from siltstore.machines import chosen, digits_to, ending, grown, inner_digits, last_digits, living, place_of
from siltstore.pairs import GREATEST, least_digit
from siltstore.rules import Rule, need_rule


class Calendar:
    """The days whose digits lead from the state 0 to one of the ends."""

    def __init__(self, rule, steps, ends):
        need_rule(rule)
        if not _are_steps(steps):
            raise BadDay("no steps of a calendar")
        if not isinstance(ends, (list, tuple)) or not all([_is_below(state, len(steps)) for state in ends]):
            raise BadDay("no ends of a calendar")
        self.rule = Rule(rule.front, rule.period)
        self.steps = [{digit: step[digit] for digit in range(GREATEST)} for step in steps]
        self.ends = tuple(sorted(set(ends)))

    def has(self, day):
        """Whether something is a day of the calendar."""
        if not is_whole(day):
            return False
        state = 0
        for digit in digits(self.rule, day):
            state = self.steps[state][digit]
        return state in self.ends


def every_day(rule):
    """The calendar of all days."""
    return Calendar(rule, [_all_to(0)], [0])


def days_with(rule, grade, many):
    """The calendar of the days with just so many layers of a grade."""
    need_rule(rule)
    need_number(grade)
    need_number(many)
    right, wrong = grade + 1, grade + 2
    steps = [_all_to(place + 1) for place in range(grade)]
    steps.append({digit: right if digit == many else wrong for digit in range(GREATEST)})
    # A day that ends ahead of the grade has no layer of it.
    ends = [right] if many else list(range(right + 1))
    return Calendar(rule, steps + [_all_to(right), _all_to(wrong)], ends)


def days_baking(rule, grade):
    """The calendar of the days on which a grade is baked."""
    need_rule(rule)
    need_number(grade)
    right, wrong = grade + 2, grade + 3
    # A bake leaves as few layers as can be in its grade and all lesser ones, and makes one of the next grade.
    steps = [{digit: place + 1 if digit == least_digit(rule[place]) else wrong for digit in range(GREATEST)}
             for place in range(grade + 1)]
    return Calendar(rule, steps + [_all_to(right), _all_to(right), _all_to(wrong)], [right])


def days_few(rule, many):
    """The calendar of the days with at most so many layers."""
    need_rule(rule)
    need_number(many)
    steps = [{digit: min(state + digit, many + 1) for digit in range(GREATEST)} for state in range(many + 2)]
    return Calendar(rule, steps, list(range(many + 1)))


def days_deep(rule, grade):
    """The calendar of the days with a layer of at least a grade."""
    need_rule(rule)
    need_number(grade)
    return Calendar(rule, [_all_to(min(state, grade) + 1) for state in range(grade + 2)], [grade + 1])


def days_from(rule, first):
    """The calendar of the days from a first one on."""
    told, steps = digits(rule, first), []
    # Of two days with as many digits the later one has more in the greatest grade in which they differ; so behind
    # each grade one state tells that the digits up to it are too few so far, and the state behind it that they are not.
    for place, known in enumerate(told):
        few, enough = 2 * place + 1, 2 * place + 2
        if place > 0:
            steps.append({digit: enough if digit > known else few for digit in range(GREATEST)})
        steps.append({digit: enough if digit >= known else few for digit in range(GREATEST)})
    enough, longer = 2 * len(told), 2 * len(told) + 1
    steps += [_all_to(longer) for _ in range(longer + 1 - len(steps))]
    return Calendar(rule, steps, [enough, longer])


def both(one, other):
    """The calendar of the days that are in both calendars."""
    return _put_together(one, other, lambda mine, theirs: mine and theirs)


def either(one, other):
    """The calendar of the days that are in at least one of two calendars."""
    return _put_together(one, other, lambda mine, theirs: mine or theirs)


def without(one, other):
    """The calendar of the days that are in the first one of two calendars alone."""
    return _put_together(one, other, lambda mine, theirs: mine and not theirs)


def rest(calendar):
    """The calendar of all days that are not in a calendar."""
    _need_calendar(calendar)
    ends = {state: True for state in calendar.ends}
    return Calendar(calendar.rule, calendar.steps, [state for state in range(len(calendar.steps)) if state not in ends])


def first_day(calendar):
    """The first day of a calendar, None if there is none."""
    _need_calendar(calendar)
    return 0 if 0 in calendar.ends else next_day(calendar, 0)


def next_day(calendar, day):
    """The first day of a calendar behind a day, None if there is none."""
    _need_calendar(calendar)
    told = digits(calendar.rule, day)
    rows = [{0: 1}]
    for grade in range(len(told)):
        rows.append(grown(calendar.steps, [(rows[-1], inner_digits(calendar.rule, grade))]))
    later = _as_long(calendar, rows, told)
    return _longer(calendar, rows) if later is None else later


def many_up_to(calendar, day):
    """How many days of a calendar there are up to a day."""
    _need_calendar(calendar)
    rule, steps, ends = calendar.rule, calendar.steps, {state: True for state in calendar.ends}
    told, many = digits(rule, day), 1 if 0 in ends else 0
    # How many rows of digits lead to each state: all of them, and those that do not go beyond the day's own so far.
    free, bound = {0: 1}, {0: 1}
    for grade, digit in enumerate(told):
        inner, last = inner_digits(rule, grade), last_digits(rule, grade)
        if grade + 1 < len(told):
            many += ending(steps, [(free, last)], ends)
        else:
            many += ending(steps, [(free, list(range(1, digit))), (bound, [digit])], ends)
        bound = grown(steps, [(free, [less for less in inner if less < digit]), (bound, [digit])])
        free = grown(steps, [(free, inner)])
    return many


def day_with(calendar, number):
    """The day of a calendar with a number, from 0, None if there are not so many."""
    _need_calendar(calendar)
    need_number(number)
    rule, steps, ends = calendar.rule, calendar.steps, {state: True for state in calendar.ends}
    if 0 in ends:
        if number == 0:
            return 0
        number -= 1
    live, rows = living(rule, steps, ends), [{0: 1}]
    # Without a state that leads on to a day, there are no more days.
    while rows[-1]:
        grade = len(rows) - 1
        digit, goals, number = chosen(steps, rows[-1], last_digits(rule, grade), ends, number)
        if digit is not None:
            return day_of(rule, digits_to(rule, steps, rows[:-1], goals, number) + [digit])
        found = grown(steps, [(rows[-1], inner_digits(rule, grade))])
        rows.append({state: many for state, many in found.items() if (place_of(rule, grade + 1), state) in live})
    return None


def first_unlike(one, other):
    """The first day that is in just one of two calendars, None if they are the same."""
    return first_day(_put_together(one, other, lambda mine, theirs: mine != theirs))


def is_within(one, other):
    """Whether all days of the first calendar are in the second one."""
    return first_day(without(one, other)) is None


def _need_calendar(calendar):
    """Refuse what is no calendar."""
    if not isinstance(calendar, Calendar):
        raise BadDay("no calendar")


def _is_below(state, many):
    """Whether something is an integer from 0 to below a number."""
    return is_whole(state) and state < many


def _are_steps(steps):
    """Whether something can be the steps of a calendar."""
    if not isinstance(steps, (list, tuple)) or not steps:
        return False
    return all([_is_step(step, len(steps)) for step in steps])


def _is_step(step, many):
    """Whether something leads from each digit to one of so many states."""
    if not isinstance(step, dict) or len(step) != GREATEST:
        return False
    return all([_is_below(digit, GREATEST) and _is_below(state, many) for digit, state in step.items()])


def _all_to(state):
    """The steps of all digits to one state."""
    return {digit: state for digit in range(GREATEST)}


def _put_together(one, other, tells):
    """The calendar of the days for which something is told by whether they are in one and in the other calendar."""
    _need_calendar(one)
    _need_calendar(other)
    if one.rule != other.rule:
        raise Unlike("rules")
    # Only the pairs of states that come up are states, so what is put together of the same parts stays small.
    numbers, pairs, steps = {(0, 0): 0}, [(0, 0)], []
    while len(steps) < len(pairs):
        mine, theirs = pairs[len(steps)]
        step = {}
        for digit in range(GREATEST):
            pair = (one.steps[mine][digit], other.steps[theirs][digit])
            if pair not in numbers:
                numbers[pair] = len(pairs)
                pairs.append(pair)
            step[digit] = numbers[pair]
        steps.append(step)
    ends, other_ends = {state: True for state in one.ends}, {state: True for state in other.ends}
    return Calendar(one.rule, steps, [numbers[pair] for pair in pairs
                                      if tells(pair[0] in ends, pair[1] in other_ends)])


def _as_long(calendar, rows, told):
    """The first day behind the one with told digits that has as many, None if there is none."""
    rule, steps = calendar.rule, calendar.steps
    # From which states the digits from each grade on lead to an end; the greatest grade stands first.
    goals = [{state: True for state in calendar.ends}]
    for grade in reversed(range(1, len(told))):
        goals.append({state: True for state in rows[grade] if steps[state][told[grade]] in goals[-1]})
    # The less of the greater grades changes, the earlier is the day.
    for grade, known in enumerate(told):
        more = list(range(known + 1, rule[grade][0]))
        digit, found, left = chosen(steps, rows[grade], more, goals[len(told) - 1 - grade], 0)
        if digit is not None:
            return day_of(rule, digits_to(rule, steps, rows[:grade], found, left) + [digit] + told[grade + 1:])
    return None


def _longer(calendar, rows):
    """The first day with at least as many digits as there are rows, None if there is none."""
    rule, steps, ends = calendar.rule, calendar.steps, {state: True for state in calendar.ends}
    grade, rows, seen = len(rows) - 1, list(rows), {}
    while rows[-1]:
        digit, goals, left = chosen(steps, rows[-1], last_digits(rule, grade), ends, 0)
        if digit is not None:
            return day_of(rule, digits_to(rule, steps, rows[:-1], goals, left) + [digit])
        # What a state leads to from a place of the rule on, it would have led to already when it came up there first.
        for state in rows[-1]:
            seen[(place_of(rule, grade), state)] = True
        grade += 1
        found = grown(steps, [(rows[-1], inner_digits(rule, grade - 1))])
        rows.append({state: many for state, many in found.items() if (place_of(rule, grade), state) not in seen})
    return None
