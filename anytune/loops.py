"""Loops: what a piece shows for all fillings, as cells of a stretch that repeats in all of time.

A cell is a tuple (begin, end, routes, table), a route a tuple (hole, up, slope, speed, lag). With c as
the begin of a cell, wherever it is repeated, a route leads v to lag + speed * c + slope * (v - c). So
the same routes hold for all repetitions of a cell. The routes of a cell are different, ascending, and
each of them matters to the table.
"""

from anytune.moments import Moment
from anytune.tables import combined
from anytune.times import common_span, earlier, first_from, later, least_turn


class Loop:
    """The one form of what a piece shows: the least span that repeats, in the longest cells.

    The cells cover [0, span). A loop in which no moment differs from another one is steady; it has
    one cell and the span 1, but it repeats after any span.
    """

    def __init__(self, span, cells, steady):
        self.span = span
        self.cells = cells
        self.steady = steady


def hole_loop(name):
    """The loop of a hole."""
    route = (name, 0, Moment(1), Moment(1), Moment(0))
    return settled(Moment(1), [(Moment(0), Moment(1), [route], "01")])


def silent_loop():
    """The loop that shows nothing."""
    return settled(Moment(1), [(Moment(0), Moment(1), [], "0")])


def carried(routes, gap):
    """The same routes, seen from a begin that is later by the gap."""
    return [
        route if route[2] == route[3] else (*route[:4], route[4] + (route[2] - route[3]) * gap)
        for route in routes
    ]


def restricted(cells, low, high):
    """The parts of the cells that lie in [low, high)."""
    out = []
    for begin, end, routes, table in cells:
        first = later(begin, low)
        last = earlier(end, high)
        if first < last:
            out.append((first, last, carried(routes, first - begin), table))
    return out


def unrolled(loop, span):
    """The cells of [0, span), for a span after which the loop repeats."""
    return window_cells(loop, Moment(0), span)


def window_cells(loop, low, high):
    """The cells of [low, high), in order."""
    if loop.steady:
        return [(low, high, routes, table) for _, _, routes, table in loop.cells if low < high]
    out = []
    begins = [cell[0] for cell in loop.cells]
    ends = [cell[1] for cell in loop.cells]
    for turn in range(low // loop.span, -(-high // loop.span)):
        moved = loop.span * turn
        cells = loop.cells[first_from(ends, low - moved):first_from(begins, high - moved)]
        placed = [(begin + moved, end + moved, routes, table) for begin, end, routes, table in cells]
        out.extend(restricted(placed, low, high))
    return out


def merged(cells):
    """The cells, with those joined that go on with the same routes."""
    out = [cells[0]]
    for cell in cells[1:]:
        if _goes_on(out[-1], cell):
            begin, _, routes, table = out[-1]
            out[-1] = (begin, cell[1], routes, table)
        else:
            out.append(cell)
    return out


def _goes_on(first, second):
    """Whether the second cell, where the first one ends, has the same table and the same routes."""
    begin, end, routes, table = first
    return table == second[3] and carried(routes, end - begin) == second[2]


def settled(span, cells):
    """The loop of cells that cover [0, span) and repeat after it."""
    rows = merged(cells)
    wrapped = _goes_on(rows[-1], rows[0])
    if wrapped and len(rows) == 1:
        return Loop(Moment(1), [(Moment(0), Moment(1), rows[0][2], rows[0][3])], True)
    keys = _keys(rows, wrapped)
    step = least_turn(keys)
    if step < len(keys):
        span = span.over(len(keys) // step)
        rows = restricted(rows, Moment(0), span)
    return Loop(span, rows, False)


def _keys(cells, wrapped):
    """A key for each longest cell of endless time, in order; wrapped if the last one goes on in the first."""
    parts = [(end - begin, routes, table) for begin, end, routes, table in cells]
    if wrapped:
        last = parts[-1]
        parts = parts[1:-1] + [(last[0] + parts[0][0], last[1], last[2])]
    return [
        (length.top, length.bottom, table, tuple([_route_key(route) for route in routes]))
        for length, routes, table in parts
    ]


def _route_key(route):
    """The parts of a route as integers and strings alone."""
    hole, up, slope, speed, lag = route
    return (hole, up, slope.top, slope.bottom, speed.top, speed.bottom, lag.top, lag.bottom)


def same_loop(first, second):
    """Whether two loops show the same for all fillings."""
    return first.span == second.span and first.cells == second.cells


def overlaid(first, second):
    """A span of both loops and its stretches: (begin, end, the cell of the first, that of the second)."""
    span = second.span if first.steady else first.span
    if not first.steady and not second.steady:
        span = common_span(first.span, second.span)
    ones = unrolled(first, span)
    twos = unrolled(second, span)
    rows = []
    i = 0
    j = 0
    begin = Moment(0)
    while begin < span:
        end = earlier(ones[i][1], twos[j][1])
        rows.append((begin, end, _from(ones[i], begin), _from(twos[j], begin)))
        i = i + 1 if ones[i][1] == end else i
        j = j + 1 if twos[j][1] == end else j
        begin = end
    return span, rows


def _from(cell, begin):
    """The routes and the table of a cell, seen from a begin in it."""
    first, _, routes, table = cell
    return carried(routes, begin - first), table


def joined(first, second, rule):
    """The loop that shows what the rule makes of two loops."""
    span, rows = overlaid(first, second)
    cells = []
    for begin, end, (routes, table), (others, other_table) in rows:
        kept, shown = combined(rule, routes, table, others, other_table)
        cells.append((begin, end, kept, shown))
    return settled(span, cells)
