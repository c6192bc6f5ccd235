"""The errors of the package: one class for each kind of failure."""


def _kept(value):
    """The value, apart from the caller's own lists and dicts, which may change later."""
    if isinstance(value, list):
        return [_kept(part) for part in value]
    if isinstance(value, dict):
        return {key: _kept(value[key]) for key in value}
    return value


class AnytuneError(ValueError):
    """The base class of the other errors."""


class NoMoment(AnytuneError):
    """A fraction with the bottom 0 is no moment."""

    def __init__(self, top, bottom):
        self.top = _kept(top)
        self.bottom = _kept(bottom)


class NoText(AnytuneError):
    """The text is not what a moment is written as."""

    def __init__(self, text):
        self.text = _kept(text)


class NoMark(AnytuneError):
    """The times do not make a mark and a part of its stretch."""

    def __init__(self, tone, begin, end):
        self.tone = _kept(tone)
        self.begin = _kept(begin)
        self.end = _kept(end)


class NoRounds(AnytuneError):
    """A tune has at least one round."""

    def __init__(self, rounds):
        self.rounds = _kept(rounds)


class NoName(AnytuneError):
    """The string is no name of a hole or a channel."""

    def __init__(self, name):
        self.name = _kept(name)


class BadPace(AnytuneError):
    """A pace is greater than 0."""

    def __init__(self, pace):
        self.pace = _kept(pace)


class NoWindow(AnytuneError):
    """The window does not lie in the rounds that it repeats in."""

    def __init__(self, begin, end, rounds):
        self.begin = _kept(begin)
        self.end = _kept(end)
        self.rounds = _kept(rounds)


class NoStep(AnytuneError):
    """A step is at least 1."""

    def __init__(self, step):
        self.step = _kept(step)


class NoTurns(AnytuneError):
    """Turns need a piece."""


class Unfilled(AnytuneError):
    """A hole has no tune."""

    def __init__(self, name):
        self.name = _kept(name)


class NoChart(AnytuneError):
    """The line cannot stand there in the text of a chart."""

    def __init__(self, line):
        self.line = _kept(line)


class NotPlain(AnytuneError):
    """What restricts the fillings is built from more than it may be."""


class NoPace(AnytuneError):
    """A route has another speed than 1."""

    def __init__(self, hole, speed):
        self.hole = _kept(hole)
        self.speed = _kept(speed)


class TooSoon(AnytuneError):
    """The delay is less than the least one that a player needs."""

    def __init__(self, least):
        self.least = _kept(least)


class NoStretch(AnytuneError):
    """The window of a player ends before it begins."""

    def __init__(self, until):
        self.until = _kept(until)


class OutOfWindow(AnytuneError):
    """A recording has a part outside of the window that is heard."""

    def __init__(self, name):
        self.name = _kept(name)


class NoMove(AnytuneError):
    """The piece is not a move."""

    def __init__(self, begin):
        self.begin = _kept(begin)


class Lost(AnytuneError):
    """No route leads to the moments of the stretch."""

    def __init__(self, start, stop):
        self.start = _kept(start)
        self.stop = _kept(stop)


class LooksAhead(AnytuneError):
    """A channel's piece needs what a hole shows later."""

    def __init__(self, name, hole):
        self.name = _kept(name)
        self.hole = _kept(hole)


class NoChannel(AnytuneError):
    """The channel has never been set."""

    def __init__(self, name):
        self.name = _kept(name)


class NoSpan(AnytuneError):
    """A deck does not play backwards."""

    def __init__(self, span):
        self.span = _kept(span)


class Ringed(AnytuneError):
    """Channels wait for each other in a ring."""

    def __init__(self, ring):
        self.ring = _kept(ring)
