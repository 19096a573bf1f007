"""Sheets: what the leaves of a day tell of keys."""

from siltstore.checks import is_whole
from siltstore.sheeterrors import BadKey, BadSheet

LAST_KEY = 999999
MOST_THINGS = 60
MOST_SIGNS = 12
SIGNS = "abcdefghijklmnopqrstuvwxyz0123456789"


class Sheet:
    """Leaves, and stretches of keys that are gone."""

    def __init__(self, leaves, marks=(), ranges=()):
        if not isinstance(leaves, dict) or not all([is_key(key) and is_value(leaves[key]) for key in leaves]):
            raise BadSheet("no such leaves")
        if not isinstance(marks, (list, tuple)) or not all([is_key(key) and key not in leaves for key in marks]):
            raise BadSheet("no such marks")
        if not isinstance(ranges, (list, tuple)) or not all([_is_range(pair) for pair in ranges]):
            raise BadSheet("no such ranges")
        if len(leaves) + len(marks) + len(ranges) > MOST_THINGS:
            raise BadSheet("too many things")
        self.leaves = {key: leaves[key] for key in sorted(leaves)}
        self.gone = _without_leaves(_joined([(key, key) for key in marks] + list(ranges)), self.leaves)
        if len(self.leaves) + len(self.gone) > MOST_THINGS:
            raise BadSheet("too many leaves and stretches")

    def __eq__(self, other):
        return isinstance(other, Sheet) and self.leaves == other.leaves and self.gone == other.gone

    def __len__(self):
        return len(self.leaves)

    def __contains__(self, key):
        return is_key(key) and key in self.leaves

    def is_gone(self, key):
        """Whether the sheet tells that a key is gone."""
        need_key(key)
        return any([first <= key <= last for first, last in self.gone])


def is_key(key):
    """Whether something is a key."""
    return is_whole(key) and key <= LAST_KEY


def need_key(key):
    """Refuse what is no key."""
    if not is_key(key):
        raise BadKey("no integer from 0 to 999999")


def is_value(value):
    """Whether something is a value of a key."""
    return isinstance(value, str) and 1 <= len(value) <= MOST_SIGNS and all([sign in SIGNS for sign in value])


def _is_range(pair):
    """Whether something is a pair of keys, the first one not above the second one."""
    return (isinstance(pair, tuple) and len(pair) == 2 and is_key(pair[0]) and is_key(pair[1])
            and pair[0] <= pair[1])


def _joined(pairs):
    """Stretches, as long as can be, of the keys that lie in some pairs."""
    found = []
    for first, last in sorted(pairs):
        if found and first <= found[-1][1] + 1:
            ahead = found.pop()
            found.append((ahead[0], max(ahead[1], last)))
        else:
            found.append((first, last))
    return found


def _without_leaves(stretches, leaves):
    """The tuple of the stretches that are left without ascending leaves."""
    found = []
    for first, last in stretches:
        start = first
        for key in leaves:
            if start <= key <= last:
                if start < key:
                    found.append((start, key - 1))
                start = key + 1
        if start <= last:
            found.append((start, last))
    return tuple(found)
