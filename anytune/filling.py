"""Filling: what a loop shows when its holes are filled with tunes or with recordings.

A filling is a pair (span, rows): longest parts in order that repeat after the span, or never if it is 0.
"""

from anytune.images import image_of
from anytune.loops import settled, unrolled, window_cells
from anytune.moments import Moment
from anytune.rows import longest, mark_key, moved, rejoined
from anytune.stretches import united
from anytune.tables import needed, spread
from anytune.times import ascending, common_span, earlier, first_from, in_order, later


def played(loop, fillings):
    """A number of rounds, and rows that a loop filled with tunes shows and repeats after them."""
    heard = _without_silence(loop, fillings)
    span = _common_span(heard, fillings)
    if heard.steady:
        rows = _endless_rows(heard.cells[0], fillings, span)
    else:
        rows = _cell_rows(unrolled(heard, span), fillings)
    if not rows:
        return 1, []
    out = []
    for turn in range(span.bottom):
        out.extend([moved(row, span * turn) for row in rows])
    return span.top, out


def overheard(loop, fillings, low, high):
    """The rows of the reading in [low, high) of a loop that is filled with recordings."""
    return longest(_cell_rows(window_cells(loop, low, high), fillings))


def replayed(loop, records, low, high):
    """The longest parts in [low, high) of a loop that is filled with records, in any order."""
    cells = window_cells(loop, low, high)
    fillings = {}
    for hole, found in _images(cells, records).items():
        parts = united(ascending([(start, stop) for start, stop, _, _, _ in found]))
        fillings[hole] = (Moment(0), records[hole].heard_in(parts))
    return rejoined(_cell_rows(cells, fillings))


def _without_silence(loop, fillings):
    """The loop without the routes of holes whose filling shows nothing."""
    cells = []
    for begin, end, routes, table in loop.cells:
        places = [place for place, route in enumerate(routes) if fillings[route[0]][1]]
        kept, shown = needed([routes[place] for place in places], spread(table, [1 << place for place in places]))
        cells.append((begin, end, kept, shown))
    return settled(loop.span, cells)


def _common_span(loop, fillings):
    """A moment after which the loop repeats when it is filled with tunes."""
    span = Moment(0) if loop.steady else loop.span
    for _, _, routes, _ in loop.cells:
        for hole, _, _, speed, _ in routes:
            own = fillings[hole][0].over(speed)
            span = common_span(span, own) if span else own
    return span if span else Moment(1)


def _led_back(row, up, slope, offset):
    """The row that a route shows when it leads each moment v to slope * v + offset in the row."""
    start, stop, begin, end = [_source_of(time, slope, offset) for time in row[:4]]
    if slope < 0:
        return stop, start, end, begin, row[4] + up
    return start, stop, begin, end, row[4] + up


def _source_of(time, slope, offset):
    """The moment that is led to the time."""
    # In one step, since a moment is brought to lowest terms each time that one is made.
    top = time.top * offset.bottom - offset.top * time.bottom
    return Moment(top * slope.bottom, time.bottom * offset.bottom * slope.top)


def _endless_rows(cell, fillings, span):
    """The rows of a steady loop, for each mark that begins in [0, span) all of its parts."""
    # A steady loop does not cut marks, however long they are.
    found = {}
    for bit, (hole, up, slope, speed, lag) in enumerate(cell[2]):
        length, rows = fillings[hole]
        for turn in range((span * speed).over(length).top):
            for row in rows:
                part = _led_back(row, up, slope, lag - length * turn)
                part = moved(part, -(span * (part[2] // span)))
                found.setdefault(mark_key(part), []).append((part, bit))
    out = []
    for key in found:
        out.extend(_shown(found[key], cell[3]))
    return out


def _cell_rows(cells, fillings):
    """The rows that are shown in the cells, cut at their ends."""
    found = {}
    images = _images(cells, fillings)
    for hole in images:
        span, rows = fillings[hole]
        for (_, _, number, bit, offset), row, shift in _meetings(images[hole], rows, span):
            part = _part_in_cell(cells[number], bit, row, offset - shift if span else offset)
            found.setdefault((number, *mark_key(part)), []).append((part, bit))
    out = []
    for key in found:
        out.extend(_shown(found[key], cells[key[0]][3]))
    return out


def _images(cells, fillings):
    """For each hole the stretches to which routes lead cells.

    They are tuples (low, high, number of the cell, bit, offset); the route leads v to slope * v + offset.
    """
    images = {}
    for number, (begin, end, routes, _) in enumerate(cells):
        for bit, route in enumerate(routes):
            if route[0] in fillings:
                hole, _, slope, speed, lag = route
                offset = lag + (speed - slope) * begin
                images.setdefault(hole, []).append((*image_of(begin, end, route), number, bit, offset))
    return images


def _meetings(images, rows, span):
    """All (image, row, shift) such that the image and the row moved by the shift have common moments."""
    out = []
    starts = [row[0] for row in rows]
    for image in images:
        for place, shift in _hits(starts, image[0], image[1], span):
            out.append((image, rows[place], shift))
    # These are the rows that start in an image. The others have an image that starts behind their start.
    homed = in_order([(_home(image[0], span), place) for place, image in enumerate(images)])
    lows = [low for low, _ in homed]
    for row in rows:
        for place, shift in _hits(lows, row[0], row[1], span):
            image = images[homed[place][1]]
            if lows[place] + shift > row[0]:
                out.append((image, row, image[0] - lows[place] - shift))
    return out


def _home(time, span):
    """The moment in [0, span) to which a time comes by a multiple of the span."""
    return time % span if span else time


def _hits(points, low, high, span):
    """All (place, shift) such that the point at the place, moved by the shift, lies in [low, high)."""
    if not span:
        return [(place, span) for place in range(first_from(points, low), first_from(points, high))]
    out = []
    shift = span * (low // span)
    place = first_from(points, low - shift)
    while points:
        if place == len(points):
            place = 0
            shift = shift + span
        if points[place] + shift >= high:
            return out
        out.append((place, shift))
        place = place + 1
    return out


def _part_in_cell(cell, bit, row, offset):
    """The part of a row that a route of the cell, which leads v to slope * v + offset, shows in it."""
    low, high, routes, _ = cell
    _, up, slope, _, _ = routes[bit]
    start, stop, begin, end, tone = _led_back(row, up, slope, offset)
    return later(start, low), earlier(stop, high), begin, end, tone


def _shown(parts, table):
    """The rows of one mark that are shown, from the parts (row, bit) in which routes find the mark."""
    if len(parts) == 1:
        row, bit = parts[0]
        return [row] if table[1 << bit] == "1" else []
    events = [(row[0], 1 << bit) for row, bit in parts] + [(row[1], 1 << bit) for row, bit in parts]
    out = []
    found = 0
    before = None
    # Parts of one route do not overlap, so each start and stop turns its bit over.
    for time, weight in ascending(events):
        if table[found] == "1" and before < time:
            out.append((before, time, *parts[0][0][2:]))
        found = found ^ weight
        before = time
    return out
