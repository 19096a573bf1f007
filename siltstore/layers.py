"""Layers: what the sheets of days side by side tell of keys."""

from siltstore.checks import is_whole
from siltstore.sheeterrors import BadDay, BadLayers, BadSheet
from siltstore.sheets import Sheet, need_key


class Layer:
    """Versions of keys, of days from a first one to a last one: stretches of keys that have the same ones."""

    def __init__(self, first, last, rows):
        self.first = first
        self.last = last
        self.rows = tuple(rows)

    def __eq__(self, other):
        return (isinstance(other, Layer) and self.first == other.first and self.last == other.last
                and self.rows == other.rows)

    def versions(self, key):
        """The versions of a key, newest first."""
        need_key(key)
        low, high = 0, len(self.rows)
        # The row of a key is the last one that does not begin behind it.
        while low < high:
            middle = (low + high) // 2
            if self.rows[middle][0] <= key:
                low = middle + 1
            else:
                high = middle
        return self.rows[low - 1][2] if low > 0 and key <= self.rows[low - 1][1] else ()

    def has(self, key):
        """Whether a key lies from the first one that is told of to the last one."""
        need_key(key)
        return len(self.rows) > 0 and self.rows[0][0] <= key <= self.rows[-1][1]


def layer_of(day, sheet):
    """The layer of the sheet of a day."""
    if not is_whole(day, 1):
        raise BadDay("no integer from 1 on")
    need_sheet(sheet)
    rows = [(key, key, ((day, value),)) for key, value in sheet.leaves.items()]
    rows += [(first, last, ((day, None),)) for first, last in sheet.gone]
    return Layer(day, day, sorted(rows, key=lambda row: row[0]))


def need_sheet(sheet):
    """Refuse what is no sheet."""
    if not isinstance(sheet, Sheet):
        raise BadSheet("no sheet")


def need_side_by_side(layers):
    """Refuse what are no layers side by side in their days, newer ones first."""
    if not isinstance(layers, (list, tuple)):
        raise BadLayers(None)
    for place, layer in enumerate(layers):
        if not isinstance(layer, Layer) or place > 0 and layer.last != layers[place - 1].first - 1:
            raise BadLayers(place)
