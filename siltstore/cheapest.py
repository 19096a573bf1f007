"""Choices of rules: which one is the least work, and which is never better than another one."""

from siltstore.checks import need_number
from siltstore.counts import first_with, greatest_number
from siltstore.errors import BadChoices
from siltstore.places import work
from siltstore.rules import Rule

MOST_CHOICES = 40


class Cheapest:
    """The place of the cheapest choice, and the days on which the cheaper ones have too many layers."""

    def __init__(self, place, against):
        self.place = place
        self.against = {other: against[other] for other in against}

    def __eq__(self, other):
        return isinstance(other, Cheapest) and self.place == other.place and self.against == other.against

    def __bool__(self):
        return True

    def shows(self, choices, most, days):
        """Whether this is the cheapest of choices with at most so many layers up to a day."""
        return self == cheapest(choices, most, days)


def cheapest(choices, most, days):
    """The Cheapest of choices with at most so many layers on each day up to a day, None if there is none."""
    _need_choices(choices)
    need_number(most)
    need_number(days)
    fit = [place for place, rule in enumerate(choices) if greatest_number(rule, days) <= most]
    if not fit:
        return None
    # What stands first wins among those with as much work.
    order = [(work(rule, days), place) for place, rule in enumerate(choices)]
    least = min([order[place] for place in fit])
    return Cheapest(least[1], {place: first_with(choices[place], most + 1)
                               for done, place in order if (done, place) < least})


def outdone(choices, days):
    """From the places of choices to that of the first other one with less work and not more layers up to a day."""
    _need_choices(choices)
    need_number(days)
    told = [(work(rule, days), greatest_number(rule, days)) for rule in choices]
    found = {}
    for place, (done, number) in enumerate(told):
        better = [other for other, (less, few) in enumerate(told) if less < done and few <= number]
        if better:
            found[place] = better[0]
    return found


def _need_choices(choices):
    """Refuse what is no list or tuple of 1 to 40 rules."""
    if not isinstance(choices, (list, tuple)) or not 1 <= len(choices) <= MOST_CHOICES:
        raise BadChoices(None)
    for place, rule in enumerate(choices):
        if not isinstance(rule, Rule):
            raise BadChoices(place)
