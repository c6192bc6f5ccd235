"""Playing: what the channels of a deck show, stretch by stretch."""

from anytune.filling import replayed
from anytune.moments import Moment
from anytune.pieces import Piece
from anytune.rings import all_awaited, in_turn
from anytune.rows import reading, rows_of
from anytune.times import earlier


class Setting:
    """A tune or a piece that a channel plays from a round on, with how far ahead it asks for each channel."""

    def __init__(self, first, thing, asks):
        self.first = first
        self.thing = thing
        self.asks = asks


def waits_at_once(settings):
    """For each name of the settings, the names that it asks for moments up to its own."""
    return {
        name: [hole for hole in settings[name].asks if hole in settings and settings[name].asks[hole] == 0]
        for name in settings
    }


def play(settings, records, low, high):
    """Adds to the records what the channels with these settings, which make no ring, show in [low, high)."""
    known = {name: low for name in settings}
    places = {name: len(records[name].rows) for name in settings}
    order, _ = in_turn(waits_at_once(settings))
    before = _to_be_played_before(settings)
    while any([known[name] < high for name in order]):
        for name in order:
            # A channel that is not asked by those that it asks is played in one go when they are.
            if known[name] < high and all([known[other] == high for other in before[name]]):
                _play_on(name, settings[name], records, known, high)
                if known[name] == high:
                    records[name].rejoin(places[name])


def _play_on(name, setting, records, known, high):
    """Plays a channel on, no further than high, for as long as it is known what it asks for."""
    until = _known_until(setting, known, high)
    while known[name] < until:
        records[name].take(_shown(setting.thing, records, known[name], until))
        known[name] = until
        until = _known_until(setting, known, high)


def _to_be_played_before(settings):
    """For each name, the names that it asks for, at once or through others, and that do not ask for it."""
    waits = {name: [hole for hole in settings[name].asks if hole in settings] for name in settings}
    awaited = {name: all_awaited(waits, name) for name in settings}
    return {name: [other for other in awaited[name] if name not in awaited[other]] for name in settings}


def _known_until(setting, known, high):
    """Up to where a channel can be played, no further than high, when the others are known so far."""
    until = high
    for hole in setting.asks:
        if hole in known:
            until = earlier(until, known[hole] - setting.asks[hole])
    return until


def _shown(thing, records, low, high):
    """The longest parts that a tune or a piece shows in [low, high), in any order."""
    if isinstance(thing, Piece):
        return replayed(thing.loop, records, low, high)
    return reading(rows_of(thing.marks), Moment(thing.rounds), low, high)
