"""Moves: pieces whose one hole can be brought back from what they show."""

from anytune.charts import chart
from anytune.errors import Lost, NoMove
from anytune.images import image_of
from anytune.loops import settled
from anytune.moments import Moment
from anytune.pieces import Piece
from anytune.times import common_span, earlier, least


class Way:
    """A cell with its one route, which leads to [low, high), and to this moved by each multiple of the period."""

    def __init__(self, cell, span):
        begin, end, routes, _ = cell
        self.begin = begin
        self.span = span
        self.route = routes[0]
        low, high = image_of(begin, end, routes[0])
        self.low = low
        self.high = high
        self.period = routes[0][3] * span


def undo(piece):
    """The piece that brings the filling of the one hole of a move back."""
    hole = _moved_hole(piece)
    loop = piece.loop
    ways = [Way(cell, loop.span) for cell in loop.cells if cell[2]]
    span, parts = _back(ways)
    cells = [(at, earlier(stop, span), [_way_back(way, at)], "01") for at, stop, way in parts]
    return Piece(settled(span, cells), [hole], False)


def _moved_hole(piece):
    """The one hole of a move."""
    cells = chart(piece).cells
    holes = [route.hole for cell in cells for route in cell.routes]
    if not holes:
        raise NoMove(Moment(0))
    for cell in cells:
        if len(cell.routes) > 1 or [route for route in cell.routes if route.hole != holes[0]]:
            raise NoMove(cell.begin)
    return holes[0]


def _back(ways):
    """A span, and parts (at, stop, way) from 0 on to all of which ways lead, and that repeat after the span."""
    # All ways together may lead to the same only after many rounds, where a few alone lead to everything.
    periods = []
    for way in ways:
        if way.period not in periods:
            periods.append(way.period)
            span, parts = _followed([other for other in ways if other.period == way.period])
            if span:
                return span, parts
    span, parts = _followed(ways)
    if span:
        return span, parts
    start = parts[-1][1] if parts else Moment(0)
    raise Lost(start, least([_next_low(way, start) for way in ways]))


def _followed(ways):
    """A span and the parts that repeat after it; or None and the parts up to the first moment that is lost."""
    span = Moment(0)
    at = Moment(0)
    parts = []
    while not parts or at < span:
        found = _best(ways, at, span)
        if found is None:
            return None, parts
        stop, way, span = found
        parts.append((at, stop, way))
        at = stop
    return span, parts


def _best(ways, at, span):
    """The stop up to which the best way leads to the moments from at on, the way, and the span that it asks for.

    The best one makes the span grow least, and then leads on for longest; None if there is none.
    """
    best = None
    for way in ways:
        stop = way.high + way.period * ((at - way.low) // way.period)
        if stop > at:
            wider = common_span(span, way.period) if span else way.period
            if best is None or wider < best[2] or (wider == best[2] and stop > best[0]):
                best = (stop, way, wider)
    return best


def _next_low(way, at):
    """The next moment behind at from which a way leads on."""
    return way.low + way.period * ((at - way.low) // way.period + 1)


def _way_back(way, at):
    """The route that leads the moment at, and the moments from there on, to what the way leads to them."""
    hole, up, slope, speed, lag = way.route
    begin = way.begin + way.span * ((at - way.low) // way.period)
    first = begin + (at - lag - speed * begin).over(slope)
    return hole, -up, Moment(1).over(slope), Moment(1).over(speed), first - at.over(speed)
