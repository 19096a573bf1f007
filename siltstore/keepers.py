"""Keepers: a store with pins, whose deeds can be undone and tried out."""

from siltstore.checks import is_whole
from siltstore.layers import need_sheet
from siltstore.sheeterrors import BadDay, NothingDone
from siltstore.sheets import need_key
from siltstore.stores import Store


class Moment:
    """What a keeper had ahead of a deed, and the moment of the deed before."""

    def __init__(self, store, pins, written, before):
        self.store = store
        self.pins = pins
        self.written = written
        self.before = before


class Keeper:
    """A store, pins, and what was ahead of each deed that was not undone."""

    MOST = 16

    def __init__(self):
        self.store = Store()
        self.written = 0
        # Tuples and moments are never changed, so what was ahead of a deed is kept by keeping them.
        self._pins = ()
        self._past = None

    def __len__(self):
        return len(self.store)

    def today(self):
        """The last day, 0 without layers."""
        return self.store.today()

    def pinned(self):
        """The pins, ascending."""
        return list(self._pins)

    def fall(self, *sheets):
        """Let sheets fall, one a day; the last day."""
        for sheet in sheets:
            need_sheet(sheet)
        store = self.store
        for sheet in sheets:
            store = store.behind(sheet)
        self._go_on(store, self._pins, self.written)
        return self.today()

    def pin(self):
        """Pin this day, and return it."""
        if len(self._pins) >= Keeper.MOST:
            raise BadDay("too many pins")
        # No pin lies behind this day.
        self._go_on(self.store, (*self._pins, self.today()), self.written)
        return self.today()

    def unpin(self, day):
        """Take one pin of a day away."""
        if not self._is_pinned(day):
            raise BadDay("not a pinned day")
        place = self._pins.index(day)
        self._go_on(self.store, self._pins[:place] + self._pins[place + 1:], self.written)

    def bake(self, first, many):
        """Bake so many layers from a place on; the number of the versions in all stretches of the new layer."""
        store = self.store.baked(first, many, self._pins)
        versions = sum([len(row[2]) for row in store.layers[first].rows])
        self._go_on(store, self._pins, self.written + versions)
        return versions

    def read(self, key, day=None):
        """What the newest version of a key up to a pinned day or the last one tells, None without one."""
        need_key(key)
        self._need_kept(day)
        return self.store.read(key, day)

    def walk(self, low, high, day=None):
        """Generate the pairs of the keys from one to another one that have a value on a pinned day or the last one,
        and the values."""
        self._need_kept(day)
        yield from self.store.walk(low, high, day)

    def undo(self):
        """Go back to what was ahead of the last deed that was not undone."""
        past = self._past
        if past is None:
            raise NothingDone("no deed is left to undo")
        self.store, self._pins, self.written, self._past = past.store, past.pins, past.written, past.before

    def attempt(self, deed):
        """What a deed with this keeper returns; if an error ends it, all is as it was at its beginning."""
        store, pins, written, past = self.store, self._pins, self.written, self._past
        done = None
        try:
            answer = deed(self)
            done = True
        finally:
            if done is None:
                self.store, self._pins, self.written, self._past = store, pins, written, past
        return answer

    def _go_on(self, store, pins, written):
        """Have something else from now on, behind one more deed."""
        self._past = Moment(self.store, self._pins, self.written, self._past)
        self.store, self._pins, self.written = store, pins, written

    def _is_pinned(self, day):
        """Whether a day is pinned."""
        return is_whole(day) and day in self._pins

    def _need_kept(self, day):
        """Refuse a day that is neither pinned nor the last one."""
        if day is not None and not self._is_pinned(day) and not (is_whole(day) and day == self.today()):
            raise BadDay("neither a pinned day nor the last one")
