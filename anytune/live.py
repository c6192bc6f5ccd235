"""Playing live: pieces that are played while their fillings are still coming."""

from anytune.errors import NoStretch, OutOfWindow, TooSoon
from anytune.filling import replayed
from anytune.images import gaps, images_from
from anytune.moments import Moment, as_moment
from anytune.pace import lead
from anytune.records import Record
from anytune.rows import longest, marks_of, rejoined, rows_of
from anytune.stretches import cut, repeated
from anytune.times import earlier, greatest, in_order, later, least

FEW_ROWS = 64


class Live:
    """A player that hears the fillings of a piece window by window, and shows the piece after a delay."""

    def __init__(self, piece, *, delay=None):
        shortest = lead(piece)
        if delay is not None and delay < shortest:
            raise TooSoon(shortest)
        self.delay = shortest if delay is None else as_moment(delay)
        self.now = Moment(0)
        self.shown = Moment(0)
        self.loop = piece.loop
        ends = [Moment(0), *gaps(piece.loop, piece.holes)]
        self.furthest = greatest(ends)
        self.nearest = least(ends)
        self.records = {name: Record() for name in piece.holes}
        self.limits = {name: FEW_ROWS for name in piece.holes}

    def hear(self, until, takes):
        """Hears the next window [now, until) of the fillings; what the piece shows up to until - delay."""
        if until < self.now:
            raise NoStretch(until)
        for name in self.records:
            if any([mark.start < self.now or mark.stop > until for mark in takes.get(name, [])]):
                raise OutOfWindow(name)
        for name in list(self.records):
            self.records[name].take(rejoined(rows_of(takes.get(name, []))))
        low = self.shown
        self.now = as_moment(until)
        self.shown = later(low, self.now - self.delay)
        rows = self._reading(low, self.shown)
        self._forget()
        return marks_of(in_order(rows))

    def kept(self, name):
        """All that is still remembered of what was heard for a hole."""
        return marks_of(longest(self._needed_rows(name))) if name in self.records else []

    def _reading(self, low, high):
        """The longest parts that the piece shows in [low, high), in any order."""
        sounding = [record for record in self.records.values() if record.rows]
        if not sounding:
            return []
        # Where no route leads to what is remembered, however long that is, there is nothing to look for.
        first = least([record.starts[0] for record in sounding]) - self.furthest
        last = greatest([record.reaches[-1] for record in sounding]) - self.nearest
        return replayed(self.loop, self.records, later(low, first), earlier(high, last))

    def _needed_rows(self, name):
        """The rows of what was heard for a hole, where the piece may still ask for them."""
        rows = self.records[name].rows
        if not rows:
            return []
        asked = images_from(self.loop, name, self.now - self.delay)
        return cut(rows, repeated(asked, self.loop.span, rows[0][0], self.now))

    def _forget(self):
        """Forgets what is no longer needed, where that has become too much."""
        for name in list(self.records):
            if len(self.records[name].rows) > self.limits[name]:
                record = Record()
                record.take(self._needed_rows(name))
                self.records[name] = record
                # To go through all rows is worth it when they may have become half of what they were.
                self.limits[name] = FEW_ROWS + 2 * len(record.rows)
