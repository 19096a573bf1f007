"""Rows without an end: a front, and then a period again and again."""

MOST = 6


def is_part(part):
    """Whether something can be a front or a period, but for what is in it."""
    return isinstance(part, (list, tuple)) and len(part) <= MOST


def shortest(front, period):
    """The tuples of the shortest front and the shortest period of the same row."""
    ahead, again = list(front), _root(list(period))
    # A front that ends as the period does lies within the period, turned by one.
    while ahead and ahead[-1] == again[-1]:
        again = [ahead.pop()] + again[:-1]
    return tuple(ahead), tuple(again)


def _root(period):
    """The shortest list that makes a period again and again."""
    for many in range(1, len(period)):
        times, rest = divmod(len(period), many)
        if rest == 0 and period[:many] * times == period:
            return period[:many]
    return period


def told_at(front, period, place):
    """What stands at a place of the row."""
    if place < len(front):
        return front[place]
    return period[(place - len(front)) % len(period)]
