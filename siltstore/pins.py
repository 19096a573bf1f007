"""Pins: days whose reads stay as they are."""

from siltstore.checks import is_whole
from siltstore.sheeterrors import BadDay


def need_pins(pins):
    """Refuse what is no list or tuple of days."""
    if not isinstance(pins, (list, tuple)) or not all([is_whole(pin) for pin in pins]):
        raise BadDay("no list or tuple of integers from 0 on")


def has_between(pins, day, newer):
    """Whether one of ascending pins lies from a day on, ahead of a newer one."""
    low, high = 0, len(pins)
    while low < high:
        middle = (low + high) // 2
        if pins[middle] < day:
            low = middle + 1
        else:
            high = middle
    return low < len(pins) and pins[low] < newer
