"""Weights: what a layer of each grade weighs."""

from siltstore.checks import is_whole
from siltstore.days import digits
from siltstore.errors import BadWeights
from siltstore.series import is_part, shortest, told_at

HEAVIEST = 100


class Weights:
    """For each grade an integer: what a layer of it weighs."""

    def __init__(self, front, period):
        if not is_part(front) or not is_part(period) or not period:
            raise BadWeights("no front or no period of weights")
        if not all([_is_weight(weight) for weight in [*front, *period]]):
            raise BadWeights("no integer from -100 to 100")
        self.front, self.period = shortest(front, period)

    def __eq__(self, other):
        return isinstance(other, Weights) and self.front == other.front and self.period == other.period

    def __getitem__(self, at):
        return told_at(self.front, self.period, at)

    def __iter__(self):
        raise TypeError("weights tell of grades without an end")

    def total(self, told):
        """What layers weigh together, told by their numbers, the grade 0 first."""
        return sum([many * self[grade] for grade, many in enumerate(told)])


def weighed(rule, weights, day):
    """What all layers weigh that lie there on a day."""
    told = digits(rule, day)
    need_weights(weights)
    return weights.total(told)


def need_weights(weights):
    """Refuse what is no weights."""
    if not isinstance(weights, Weights):
        raise BadWeights("these are no weights")


def _is_weight(weight):
    """Whether something is what a layer can weigh."""
    return is_whole(weight, -HEAVIEST) and weight <= HEAVIEST
