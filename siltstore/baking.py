"""Baking: layers side by side that become one, with the versions that pins need."""

from siltstore.layers import Layer, need_side_by_side
from siltstore.pins import has_between, need_pins
from siltstore.sheeterrors import BadLayers


def bake(layers, pins=(), *, is_bottom=False):
    """The layer that layers side by side, newer ones first, are baked into."""
    need_side_by_side(layers)
    if not layers:
        raise BadLayers(None)
    need_pins(pins)
    order = sorted(set(pins))
    rows = _rows_of_all([_joined(layer.rows, order) for layer in layers], order)
    if is_bottom:
        rows = _joined([(first, last, _above_gone(versions)) for first, last, versions in rows], order)
    return Layer(layers[-1].first, layers[0].last, rows)


def _rows_of_all(parts, pins):
    """The rows that the rows of layers, newer ones first, are baked into."""
    # The same versions stay if layers are baked two by two: a pin between a version and the next newer one lies also
    # ahead of the newer ones that are left behind it. So rows stay short where there are many layers.
    while len(parts) > 1:
        baked = [_rows_of_two(parts[place], parts[place + 1], pins) for place in range(0, len(parts) - 1, 2)]
        parts = baked + parts[2 * len(baked):]
    return parts[0]


def _rows_of_two(newer, older, pins):
    """The rows that the rows of two layers are baked into."""
    edges = [row[0] for row in [*newer, *older]] + [row[1] + 1 for row in [*newer, *older]]
    edges = sorted(set(edges))
    found, mine, theirs = [], 0, 0
    for first, behind in zip(edges, edges[1:]):
        while mine < len(newer) and newer[mine][1] < first:
            mine += 1
        while theirs < len(older) and older[theirs][1] < first:
            theirs += 1
        found.append((first, behind - 1, _versions_at(newer, mine, first) + _versions_at(older, theirs, first)))
    return _joined(found, pins)


def _versions_at(rows, place, key):
    """The versions of a key in rows of which the one at a place is the first that does not end ahead of it."""
    return rows[place][2] if place < len(rows) and rows[place][0] <= key else ()


def _joined(rows, pins):
    """Rows with the needed versions alone, without empty ones, and as long as can be where all is gone."""
    found = []
    for first, last, versions in rows:
        kept = _needed(versions, pins)
        if found and found[-1][1] == first - 1 and found[-1][2] == kept and not _has_leaf(kept):
            ahead = found.pop()
            found.append((ahead[0], last, kept))
        elif kept:
            found.append((first, last, kept))
    return found


def _needed(versions, pins):
    """The newest one of versions, and those that a pin needs."""
    found = list(versions[:1])
    for newer, version in zip(versions, versions[1:]):
        if has_between(pins, version[0], newer[0]):
            found.append(version)
    return tuple(found)


def _above_gone(versions):
    """Versions without the oldest ones that are gone."""
    many = len(versions)
    while many > 0 and versions[many - 1][1] is None:
        many -= 1
    return versions[:many]


def _has_leaf(versions):
    """Whether one of versions has a value."""
    return any([value is not None for _, value in versions])
