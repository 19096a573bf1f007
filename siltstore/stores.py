"""Stores: layers side by side, down to day 1, and what is read in them."""

from siltstore.baking import bake
from siltstore.checks import is_whole
from siltstore.layers import Layer, layer_of, need_side_by_side
from siltstore.sheeterrors import BadDay, BadLayers
from siltstore.sheets import LAST_KEY, is_key, need_key


class Store:
    """Layers, newer ones first, side by side in their days, down to day 1."""

    def __init__(self, layers=()):
        need_side_by_side(layers)
        if layers and layers[-1].first != 1:
            raise BadLayers(len(layers) - 1)
        self.layers = tuple([Layer(layer.first, layer.last, layer.rows) for layer in layers])

    def __eq__(self, other):
        return isinstance(other, Store) and self.layers == other.layers

    def __len__(self):
        return len(self.layers)

    def today(self):
        """The last day, 0 without layers."""
        return self.layers[0].last if self.layers else 0

    def behind(self, sheet):
        """The store behind the next day, on which a sheet falls."""
        return Store((layer_of(self.today() + 1, sheet), *self.layers))

    def baked(self, first, many, pins=()):
        """The store with so many layers, from a place on, baked into one."""
        if not is_whole(first) or not is_whole(many, 1) or first + many > len(self.layers):
            raise BadLayers(None)
        is_bottom = first + many == len(self.layers)
        layer = bake(self.layers[first:first + many], pins, is_bottom=is_bottom)
        return Store((*self.layers[:first], layer, *self.layers[first + many:]))

    def versions(self, key):
        """All versions of a key, newest first."""
        need_key(key)
        return [version for layer in self.layers for version in layer.versions(key)]

    def read(self, key, day=None):
        """What the newest version of a key up to a day tells, None without one."""
        need_key(key)
        last = self._asked(day)
        for layer in self.layers:
            for told, value in layer.versions(key):
                if told <= last:
                    return value
        return None

    def opened(self, key, day=None):
        """The places of the layers that are looked at, from the newest one on."""
        need_key(key)
        last, found = self._asked(day), []
        for place, layer in enumerate(self.layers):
            if layer.first <= last and layer.has(key):
                found.append(place)
                if any([told <= last for told, _ in layer.versions(key)]):
                    return found
        return found

    def walk(self, low=0, high=LAST_KEY, day=None):
        """Generate the pairs of the keys from one to another one that have a value on a day, and the values."""
        need_key(low)
        need_key(high)
        last = self._asked(day)
        for key in self._starts(low, high):
            value = self.read(key, last)
            if value is not None:
                yield key, value

    def next_key(self, key, day=None):
        """The least key from one on that has a value on a day, None without one."""
        for found, _ in self.walk(key, LAST_KEY, day):
            return found
        return None

    def last_key(self, key, day=None):
        """The greatest key up to one that has a value on a day, None without one."""
        need_key(key)
        last = self._asked(day)
        for found in reversed(list(self._starts(0, key))):
            if self.read(found, last) is not None:
                return found
        return None

    def _asked(self, day):
        """The day that is asked for."""
        if day is None:
            return self.today()
        need_day_of(self, day)
        return day

    def _starts(self, low, high):
        """The keys from one to another one at which a stretch begins, as each key with a value does, ascending."""
        return sorted(set([row[0] for layer in self.layers for row in layer.rows if low <= row[0] <= high]))


class SameStores:
    """Keys that are enough to tell that two stores read the same."""

    def __init__(self, tried):
        self.tried = list(tried)

    def __eq__(self, other):
        return isinstance(other, SameStores) and self.tried == other.tried

    def __bool__(self):
        return True

    def shows(self, one, other, days):
        """Whether both stores read the same at the keys that are tried, and these are enough."""
        _need_days_of_both(one, other, days)
        tried, edges = {key: True for key in self.tried}, _edges(one, other)
        if self.tried != sorted(tried) or not all([key in tried for key in edges]):
            return False
        # All other keys that are tried read as the edge ahead of them does.
        return _unlike(one, other, days, edges) is None


class UnlikeStores:
    """A day, and a key that reads unlike things on it."""

    def __init__(self, day, key):
        self.day = day
        self.key = key

    def __eq__(self, other):
        return isinstance(other, UnlikeStores) and self.day == other.day and self.key == other.key

    def __bool__(self):
        return False

    def shows(self, one, other, days):
        """Whether the key reads unlike things in two stores on the day, one of those that are told."""
        _need_days_of_both(one, other, days)
        if self.day not in days or not is_key(self.key):
            return False
        return one.read(self.key, self.day) != other.read(self.key, self.day)


def judge_same(one, other, days):
    """A SameStores if two stores read the same on some days, otherwise an UnlikeStores."""
    _need_days_of_both(one, other, days)
    tried = _edges(one, other)
    unlike = _unlike(one, other, days, tried)
    return SameStores(tried) if unlike is None else UnlikeStores(unlike[0], unlike[1])


def need_day_of(store, day):
    """Refuse what is no day of a store."""
    if not is_whole(day) or day > store.today():
        raise BadDay("no day of the store")


def _need_days_of_both(one, other, days):
    """Refuse what are no stores, or no days of both."""
    if not isinstance(one, Store) or not isinstance(other, Store):
        raise BadLayers(None)
    if not isinstance(days, (list, tuple)):
        raise BadDay("no list or tuple of days")
    for day in days:
        need_day_of(one, day)
        need_day_of(other, day)


def _edges(one, other):
    """The key 0, and all keys at which a stretch of one of two stores begins, or that come behind its last one."""
    found = [0]
    for store in (one, other):
        for layer in store.layers:
            for first, last, _ in layer.rows:
                found += [first, last + 1]
    return [key for key in sorted(set(found)) if key <= LAST_KEY]


def _unlike(one, other, days, keys):
    """One of days, and one of keys that reads unlike things on it in two stores, None if none does."""
    mine, theirs = _in_one_layer(one, days), _in_one_layer(other, days)
    for key in keys:
        told, other_told = mine.versions(key), theirs.versions(key)
        unlike = [day for day in days if _told_on(told, day) != _told_on(other_told, day)] if told != other_told else []
        if unlike:
            return unlike[0], key
    return None


def _in_one_layer(store, days):
    """A store that is baked into one layer: on these days it reads the same, and keys are found more quickly."""
    return store.baked(0, len(store), days) if len(store) > 0 else store


def _told_on(versions, day):
    """What the newest one of versions up to a day tells, None without one."""
    for told, value in versions:
        if told <= day:
            return value
    return None
