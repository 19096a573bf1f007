"""Two rules compared on all days, by reading the digits of both for the same day side by side."""

from math import lcm

from siltstore.days import day_of
from siltstore.errors import Unlike
from siltstore.machines import leading
from siltstore.pairs import is_digit, least_digit
from siltstore.rules import need_rule
from siltstore.weights import Weights, need_weights, weighed

FIRST = (0, 0, False, False)


class Excess:
    """The greatest excess, a day with it, and heights of states that bar more for ever."""

    def __init__(self, number, day, heights, closed):
        self.number = number
        self.day = day
        self.heights = {state: heights[state] for state in heights}
        self.closed = list(closed)

    def __eq__(self, other):
        return (isinstance(other, Excess) and self.number == other.number and self.day == other.day
                and self.heights == other.heights and self.closed == other.closed)

    def __bool__(self):
        return True

    def shows(self, one, other, mine=None, theirs=None):
        """Whether the number is the greatest excess, on the day, and the heights bar more."""
        both = side_by_side(one, other, mine, theirs)
        if self.number < 0 or self.day < 0 or both.excess(self.day) != self.number:
            return False
        if FIRST not in self.heights or self.heights[FIRST] > self.number:
            return False
        if not all([both.has_place(state[0]) for state in [*self.heights, *self.closed]]):
            return False
        return self._is_closed(both) and self._bars(both)

    def _is_closed(self, both):
        """Whether no step leads from a closed state to one that is not closed, and none is an end."""
        closed = {state: True for state in self.closed}
        return all([not is_end(state) and all([move[0] in closed for move in both.moves(state)])
                    for state in closed])

    def _bars(self, both):
        """Whether no step from a state with a height rises above it, and no end lies below 0."""
        closed = {state: True for state in self.closed}
        for state, height in self.heights.items():
            if is_end(state) and height < 0:
                return False
            for behind, weight, _ in both.moves(state):
                if behind not in closed and (behind not in self.heights or self.heights[behind] + weight > height):
                    return False
        return True


class Endless:
    """Pairs of digits of days with ever more excess: with a ring as often as one likes."""

    def __init__(self, lead, ring, tail):
        self.lead = list(lead)
        self.ring = list(ring)
        self.tail = list(tail)

    def __eq__(self, other):
        return (isinstance(other, Endless) and self.lead == other.lead and self.ring == other.ring
                and self.tail == other.tail)

    def __bool__(self):
        return False

    def day(self, one, turns):
        """The day with the ring so many times, by the first rule."""
        days, pairs = 0, self.lead + self.ring * turns + self.tail
        for grade in reversed(range(len(pairs))):
            days = pairs[grade][0] + one[grade][1] * days
        return days

    def shows(self, one, other, mine=None, theirs=None):
        """Whether the ring can be gone round as often as one likes, and weighs more than 0."""
        both = side_by_side(one, other, mine, theirs)
        start = both.behind_pairs((0, 0), self.lead)
        if start is None or not self.ring or both.behind_pairs(start, self.ring) != start:
            return False
        # Both rules' days are the same just if nothing is carried on behind the last digits.
        end = both.behind_pairs(start, self.tail)
        if end is None or end[1] != 0 or both.weight_of(start[0], self.ring) <= 0:
            return False
        # The ring comes back to its place, so digits that a day has behind two rings it has behind more of them, too.
        return all([self._are_digits(one, other, turns) for turns in range(3)])

    def _are_digits(self, one, other, turns):
        """Whether both rules have a day with these digits, with the ring so many times."""
        pairs = self.lead + self.ring * turns + self.tail
        return _has_day(one, digits_of(pairs, 0)) and _has_day(other, digits_of(pairs, 1))


class SideBySide:
    """Two rules and their weights, written out to one front and one period."""

    def __init__(self, one, other, mine, theirs):
        self.rules = (one, other)
        self.weights = (mine, theirs)
        self.front = max([len(row.front) for row in (one, other, mine, theirs)])
        self.period = lcm(len(one.period), len(other.period), len(mine.period), len(theirs.period))

    def has_place(self, place):
        """Whether a number is a place of grades."""
        return 0 <= place < self.front + self.period

    def is_alike(self):
        """Whether both rules have the same second number at each grade."""
        one, other = self.rules
        return all([one[place][1] == other[place][1] for place in range(self.front + self.period)])

    def excess(self, day):
        """What the layers of the first rule weigh more on a day than those of the second one."""
        one, other = self.rules
        mine, theirs = self.weights
        return weighed(one, mine, day) - weighed(other, theirs, day)

    def place_behind(self, place):
        """The place of the next grade."""
        return place + 1 if self.has_place(place + 1) else self.front

    def carry_behind(self, place, carry, pair):
        """The carry behind a step with a pair of digits, None if there is no such step."""
        carried, left = divmod(carry + pair[0] - pair[1], self.rules[0][place][1])
        return None if left else carried

    def weight(self, place, pair):
        """What a step with a pair of digits weighs."""
        mine, theirs = self.weights
        return mine[place] * pair[0] - theirs[place] * pair[1]

    def moves(self, state):
        """All steps from a state: the state behind, what the step weighs, and its pair of digits."""
        place, carry, ended, other_ended = state
        if ended and other_ended:
            return []
        one, other = self.rules
        behind, found = self.place_behind(place), []
        for digit, last in _readings(one[place], ended):
            for other_digit, other_last in _readings(other[place], other_ended):
                pair = (digit, other_digit)
                carried = self.carry_behind(place, carry, pair)
                if carried is not None:
                    found.append(((behind, carried, last, other_last), self.weight(place, pair), pair))
        return found

    def behind_pairs(self, start, pairs):
        """The place and the carry behind pairs of digits, from a place and a carry on, None if they lead nowhere."""
        place, carry = start
        for pair in pairs:
            carry = self.carry_behind(place, carry, pair)
            if carry is None:
                return None
            place = self.place_behind(place)
        return place, carry

    def weight_of(self, place, pairs):
        """What pairs of digits weigh from a place on."""
        total = 0
        for pair in pairs:
            total += self.weight(place, pair)
            place = self.place_behind(place)
        return total


def judge_excess(one, other, mine=None, theirs=None):
    """An Excess if some day has the greatest excess, otherwise an Endless."""
    moves = _all_moves(side_by_side(one, other, mine, theirs))
    ends = {state: True for state in moves if is_end(state)}
    live = _living(moves, ends)
    heights, best, risen = _raised(moves, live, ends)
    if risen is not None:
        ring_start, ring = _ring(best, risen, len(live))
        return Endless(_path(moves, FIRST, {ring_start: True}), ring, _path(moves, ring_start, ends))
    number, day = 0, 0
    if heights[FIRST] > 0:
        # Only steps that lose no height lead to a day with the greatest excess.
        steep = {state: [move for move in moves[state]
                         if move[0] in heights and heights[move[0]] + move[1] == heights[state]] for state in live}
        number, day = heights[FIRST], day_of(one, digits_of(_path(steep, FIRST, ends), 0))
    return Excess(number, day, heights, [state for state in moves if state not in live])


def side_by_side(one, other, mine, theirs):
    """Two rules and their weights, if they can be compared."""
    need_rule(one)
    need_rule(other)
    for weights in (mine, theirs):
        if weights is not None:
            need_weights(weights)
    each = Weights([], [1])
    both = SideBySide(one, other, each if mine is None else mine, each if theirs is None else theirs)
    if not both.is_alike():
        raise Unlike("baked")
    return both


def is_end(state):
    """Whether both rules have ended in a state with the same day."""
    return state[2] and state[3] and state[1] == 0


def digits_of(pairs, side):
    """The digits of one side of pairs, without zeros at their end."""
    told = [pair[side] for pair in pairs]
    while told and told[-1] == 0:
        told.pop()
    return told


def _has_day(rule, told):
    """Whether a rule has a day with told digits."""
    return all([is_digit(rule[grade], digit, grade == len(told) - 1) for grade, digit in enumerate(told)])


def _readings(pair, ended):
    """The digits that a rule may take at a grade with a pair, and whether it has ended then."""
    if ended:
        return [(0, True)]
    return ([(digit, True) for digit in range(1, pair[0])]
            + [(digit, False) for digit in range(least_digit(pair), pair[0])])


def _all_moves(both):
    """From each state that comes up the steps, to each state behind it only the one that weighs most."""
    moves, left = {}, [FIRST]
    while left:
        state = left.pop()
        if state in moves:
            continue
        heaviest = {}
        for behind, weight, pair in both.moves(state):
            if behind not in heaviest or weight > heaviest[behind][1]:
                heaviest[behind] = (behind, weight, pair)
        moves[state] = list(heaviest.values())
        left.extend(list(heaviest))
    return moves


def _living(moves, ends):
    """The states from which steps lead to an end."""
    ahead = {state: [] for state in moves}
    for state, steps in moves.items():
        for move in steps:
            ahead[move[0]].append(state)
    return leading(ahead, list(ends))


def _raised(moves, live, ends):
    """Heights of states, the best step of each, and a state that never ceases to rise, None if there is none."""
    heights, best = {state: 0 for state in ends}, {}
    for _ in range(len(live) + 1):
        risen = None
        for state in live:
            for behind, weight, pair in moves[state]:
                if behind in heights and (state not in heights or heights[behind] + weight > heights[state]):
                    heights[state] = heights[behind] + weight
                    best[state] = (behind, pair)
                    risen = state
        if risen is None:
            break
    return heights, best, risen


def _ring(best, risen, many):
    """A state of a ring of best steps, and the pairs of digits of this ring."""
    start = risen
    # What still rises after as many rounds as there are states leads into a ring that weighs more than 0.
    for _ in range(many):
        start = best[start][0]
    state, pair = best[start]
    ring = [pair]
    while state != start:
        state, pair = best[state]
        ring.append(pair)
    return start, ring


def _path(moves, start, goals):
    """The pairs of digits of as few steps as can be from a state to one of the goals, to which steps must lead."""
    came, row = {start: []}, [start]
    while True:
        further = []
        for state in row:
            if state in goals:
                return came[state]
            for behind, _, pair in moves[state]:
                if behind not in came:
                    came[behind] = came[state] + [pair]
                    further.append(behind)
        row = further
