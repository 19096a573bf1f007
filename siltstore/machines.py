"""What machines that read the digits of a day tell: which states are reached, and by how many rows of digits."""

from siltstore.pairs import least_digit


def inner_digits(rule, grade):
    """The digits that a grade may have below a greater one."""
    pair = rule[grade]
    return list(range(least_digit(pair), pair[0]))


def last_digits(rule, grade):
    """The digits that a grade may have as the greatest one."""
    return list(range(1, rule[grade][0]))


def place_of(rule, grade):
    """The place of a grade in the front and the period of a rule: the same place, the same pairs from there on."""
    front = len(rule.front)
    return grade if grade < front else front + (grade - front) % len(rule.period)


def grown(steps, parts):
    """How many rows lead to each state behind one more digit; each part has such counts, and the digits behind them."""
    found = {}
    for counts, options in parts:
        for state, many in counts.items():
            for digit in options:
                behind = steps[state][digit]
                found[behind] = found.get(behind, 0) + many
    return found


def ending(steps, parts, ends):
    """How many rows lead to ends by one more digit."""
    return sum([many for state, many in grown(steps, parts).items() if state in ends])


def chosen(steps, counts, options, goals, number):
    """The digit by which the row with a number, from 0, leads to goals, the states from which such rows do, and its
    number among these; None and what is left of the number, if there are not so many."""
    for digit in options:
        found = {state: many for state, many in counts.items() if steps[state][digit] in goals}
        many = sum(found.values())
        if number < many:
            return digit, found, number
        number -= many
    return None, {}, number


def digits_to(rule, steps, rows, goals, number):
    """The digits of the row with a number, from 0, among those that lead through rows of counts to goals."""
    told = []
    for grade in reversed(range(len(rows))):
        digit, goals, number = chosen(steps, rows[grade], inner_digits(rule, grade), goals, number)
        told.append(digit)
    return told[::-1]


def living(rule, steps, ends):
    """The pairs of places and states from which digits, the last one with them, lead to an end."""
    ahead, left, live = {(0, 0): []}, [(0, 0)], []
    while left:
        place, state = left.pop()
        if any([steps[state][digit] in ends for digit in last_digits(rule, place)]):
            live.append((place, state))
        for digit in inner_digits(rule, place):
            behind = (place_of(rule, place + 1), steps[state][digit])
            if behind not in ahead:
                ahead[behind] = []
                left.append(behind)
            ahead[behind].append((place, state))
    return leading(ahead, live)


def leading(ahead, goals):
    """From what goals can be reached, with the goals; ahead tells what lies one step ahead of each."""
    found, left = {}, list(goals)
    while left:
        node = left.pop()
        if node not in found:
            found[node] = True
            left.extend(ahead[node])
    return found
