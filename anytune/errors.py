"""The errors of the package: one class for each kind of failure."""


class AnytuneError(ValueError):
    """The base class of the other errors."""


class NoMoment(AnytuneError):
    """A fraction with the bottom 0 is no moment."""

    def __init__(self, top, bottom):
        self.top = top
        self.bottom = bottom


class NoText(AnytuneError):
    """The text is not what a moment is written as."""

    def __init__(self, text):
        self.text = text


class NoMark(AnytuneError):
    """The times do not make a mark and a part of its stretch."""

    def __init__(self, tone, begin, end):
        self.tone = tone
        self.begin = begin
        self.end = end


class NoRounds(AnytuneError):
    """A tune has at least one round."""

    def __init__(self, rounds):
        self.rounds = rounds


class NoName(AnytuneError):
    """The string is no name of a hole or a channel."""

    def __init__(self, name):
        self.name = name


class BadPace(AnytuneError):
    """A pace is greater than 0."""

    def __init__(self, pace):
        self.pace = pace


class NoWindow(AnytuneError):
    """The window does not lie in the rounds that it repeats in."""

    def __init__(self, begin, end, rounds):
        self.begin = begin
        self.end = end
        self.rounds = rounds


class NoStep(AnytuneError):
    """A step is at least 1."""

    def __init__(self, step):
        self.step = step


class NoTurns(AnytuneError):
    """Turns need a piece."""


class Unfilled(AnytuneError):
    """A hole has no tune."""

    def __init__(self, name):
        self.name = name


class NoChart(AnytuneError):
    """The line cannot stand there in the text of a chart."""

    def __init__(self, line):
        self.line = line


class NotPlain(AnytuneError):
    """What restricts the fillings is built from more than it may be."""


class NoPace(AnytuneError):
    """A route has another speed than 1."""

    def __init__(self, hole, speed):
        self.hole = hole
        self.speed = speed


class TooSoon(AnytuneError):
    """The delay is less than the least one that a player needs."""

    def __init__(self, least):
        self.least = least


class NoStretch(AnytuneError):
    """The window of a player ends before it begins."""

    def __init__(self, until):
        self.until = until


class OutOfWindow(AnytuneError):
    """A recording has a part outside of the window that is heard."""

    def __init__(self, name):
        self.name = name


class NoMove(AnytuneError):
    """The piece is not a move."""

    def __init__(self, begin):
        self.begin = begin


class Lost(AnytuneError):
    """No route leads to the moments of the stretch."""

    def __init__(self, start, stop):
        self.start = start
        self.stop = stop


class LooksAhead(AnytuneError):
    """A channel's piece needs what a hole shows later."""

    def __init__(self, name, hole):
        self.name = name
        self.hole = hole


class NoChannel(AnytuneError):
    """The channel has never been set."""

    def __init__(self, name):
        self.name = name


class NoSpan(AnytuneError):
    """A deck does not play backwards."""

    def __init__(self, span):
        self.span = span


class Ringed(AnytuneError):
    """Channels wait for each other in a ring."""

    def __init__(self, ring):
        # The caller may change its list later; the error keeps the names.
        self.ring = list(ring) if isinstance(ring, list) else ring
