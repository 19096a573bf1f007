"""Histories of sheets that tests keep by themselves, key by key, to hold layers and stores against."""

from siltstore.layers import layer_of
from siltstore.sheets import Sheet
from test_sheets import some_sheet

LAST = 30


class History:
    """For each day what its sheet tells of each key up to a last one: a value, None if it is gone, nothing else."""

    def __init__(self, dice, days, last=LAST):
        self.sheets, self.told = [], []
        for _ in range(days):
            leaves, marks, ranges, gone = some_sheet(dice, last)
            self.sheets.append(Sheet(leaves, marks, ranges))
            self.told.append({key: leaves.get(key) for key in range(last + 1) if key in leaves or gone[key]})

    def versions(self, key, first=1, last=None):
        """All versions of a key on the days from a first to a last one, newest first."""
        days = range(first, (len(self.told) if last is None else last) + 1)
        return [(day, self.told[day - 1][key]) for day in reversed(days) if key in self.told[day - 1]]

    def read(self, key, day):
        """What the newest version of a key up to a day tells."""
        told = [value for at, value in self.versions(key) if at <= day]
        return told[0] if told else None

    def layers(self, first=1, last=None):
        """The layers of the days from a first to a last one, newer ones first, none of them baked."""
        days = range(first, (len(self.sheets) if last is None else last) + 1)
        return [layer_of(day, self.sheets[day - 1]) for day in reversed(days)]


def kept(versions, pins, is_bottom=False):
    """The versions that stay, told as the document does: each one on its own, day by day."""
    found = []
    for place, (day, value) in enumerate(versions):
        newer = versions[place - 1][0] if place else None
        if place == 0 or any(pin in range(day, newer) for pin in pins):
            found.append((day, value))
    while is_bottom and found and found[-1][1] is None:
        found.pop()
    return tuple(found)


def rows_of(told):
    """Rows for the versions of all keys from 0 on, put together key by key."""
    found = []
    for key, versions in enumerate(told):
        is_gone = all(value is None for _, value in versions)
        if versions and found and found[-1][1] == key - 1 and found[-1][2] == versions and is_gone:
            found[-1] = (found[-1][0], key, versions)
        elif versions:
            found.append((key, key, versions))
    return tuple(found)
