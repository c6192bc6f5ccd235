"""Decks: channels that play tunes, and pieces of each other."""

from anytune.errors import LooksAhead, NoChannel, NoName, NoSpan, Ringed
from anytune.moments import Moment, as_moment, is_time
from anytune.names import is_name
from anytune.pace import ahead
from anytune.pieces import Piece
from anytune.playing import Setting, play, waits_at_once
from anytune.records import Record
from anytune.rings import ring_of
from anytune.rows import longest, marks_of
from anytune.stretches import cut
from anytune.times import earlier, later


class Deck:
    """Channels, each with its settings in order and a record of what it has shown."""

    def __init__(self):
        self.now = Moment(0)
        self.settings = {}
        self.records = {}

    def __setitem__(self, name, thing):
        self._set(name, thing, _asks(name, thing))

    def __getitem__(self, name):
        if name not in self.settings:
            raise NoChannel(name)
        return self.settings[name][-1].thing

    def __contains__(self, name):
        return name in self.settings

    def __len__(self):
        return len(self.settings)

    def __iter__(self):
        raise TypeError("a deck is not iterated over")

    def __iadd__(self, other):
        if not is_time(other):
            return NotImplemented
        if other < 0:
            raise NoSpan(other)
        until = self.now + other
        if until > _round_from(self.now):
            ring = ring_of(waits_at_once({name: self.settings[name][-1] for name in self.settings}))
            if ring:
                raise Ringed(ring)
        self._play(until)
        return self

    def names(self):
        """The names of the channels that have been set, in the order of their first settings."""
        return list(self.settings)

    def played(self, name, begin, end):
        """The reading in the part of [begin, end) that has been played."""
        if name not in self.settings:
            raise NoChannel(name)
        low = later(as_moment(begin), Moment(0))
        high = earlier(as_moment(end), self.now)
        if low >= high:
            return []
        rows = self.records[name].heard_in([(low, high)])
        return marks_of(longest(cut(rows, [(low, high)])))

    def change(self, rows):
        """Sets channels in order; none of them if one of them cannot be set."""
        settings = [(name, thing, _asks(name, thing)) for name, thing in rows]
        for name, thing, asks in settings:
            self._set(name, thing, asks)

    def _set(self, name, thing, asks):
        """Sets a channel that may be set so."""
        first = _round_from(self.now)
        settings = self.settings.setdefault(name, [])
        self.records.setdefault(name, Record())
        if settings and settings[-1].first == first:
            settings.pop()
        settings.append(Setting(first, thing, asks))

    def _play(self, until):
        """Plays on."""
        while self.settings and self.now < until:
            high = earlier(until, Moment(self.now // 1 + 1))
            play(self._in_force(), self.records, self.now, high)
            self.now = high
        self.now = until

    def _in_force(self):
        """For each channel that plays, its setting that is in force now."""
        found = {}
        for name in self.settings:
            counting = [setting for setting in self.settings[name] if setting.first <= self.now]
            if counting:
                found[name] = counting[-1]
        return found


def _round_from(time):
    """The least integer that is not less than a time."""
    return -(-time // 1)


def _asks(name, thing):
    """How far ahead what a channel is set to asks for each channel, if it may be set so."""
    if not is_name(name):
        raise NoName(name)
    asks = {}
    holes = thing.holes if isinstance(thing, Piece) else []
    for hole in holes:
        gap = ahead(thing, hole)
        if gap is not None:
            if gap > 0:
                raise LooksAhead(name, hole)
            asks[hole] = gap
    return asks
