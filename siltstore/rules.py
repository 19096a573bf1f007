"""Rules: at how many layers each grade is baked, and how many of them are."""

from siltstore.errors import BadRule
from siltstore.pairs import is_pair
from siltstore.series import is_part, shortest, told_at


class Rule:
    """For each grade a pair: at how many layers it is baked, and how many of them."""

    def __init__(self, front, period):
        if not is_part(front) or not is_part(period) or not period:
            raise BadRule(None)
        for place, pair in enumerate([*front, *period]):
            if not is_pair(pair):
                raise BadRule(place)
        self.front, self.period = shortest(front, period)

    def __eq__(self, other):
        return isinstance(other, Rule) and self.front == other.front and self.period == other.period

    def __getitem__(self, at):
        return told_at(self.front, self.period, at)

    def __iter__(self):
        raise TypeError("a rule tells of grades without an end")

    def size(self, grade):
        """How many days lie in a layer of a grade."""
        days = 1
        for lesser in range(grade):
            days *= self[lesser][1]
        return days

    def owed(self, grade):
        """The sum, over the lesser grades, of their sizes times the difference of their pairs."""
        total, days = 0, 1
        for lesser in range(grade):
            most, many = self[lesser]
            total += days * (most - many)
            days *= many
        return total


def need_rule(rule):
    """Refuse what is no rule."""
    if not isinstance(rule, Rule):
        raise BadRule(None)
