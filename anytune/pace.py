"""Pace: how far ahead pieces ask for their fillings, and which parts of them they ask for."""

from anytune.charts import chart
from anytune.errors import NoPace
from anytune.images import gaps, image_of, images_from, images_in, mark_image
from anytune.marks import Mark
from anytune.moments import Moment, as_moment
from anytune.stretches import repeated
from anytune.times import earlier, greatest, later, least


class Surprise:
    """Two fillings that are the same before end + delay, and a mark that a piece shows with just one of them."""

    def __init__(self, begin, end, mark, first, second, left):
        self.begin = begin
        self.end = end
        self.mark = mark
        self.first = first
        self.second = second
        self.left = left


def ahead(p, hole):
    """How far ahead a piece asks for what a hole shows; None if it never asks."""
    _check_pace(p, [hole])
    found = gaps(p.loop, [hole])
    return greatest(found) if found else None


def lead(p):
    """The least delay with which a piece can be played while its fillings are still coming."""
    _check_pace(p, p.holes)
    return greatest([Moment(0), *gaps(p.loop, p.holes)])


def heard(p, hole, begin, end):
    """The longest parts of [begin, end) in which a piece asks for what a hole shows."""
    _check_pace(p, [hole])
    low = as_moment(begin)
    span = p.loop.span
    parts = []
    for start, stop in images_in(p.loop.cells, hole):
        first = low - (low - start) % span
        parts.append((first, first + (stop - start)))
    return repeated(parts, span, low, as_moment(end))


def needed(p, hole, now, *, delay=None):
    """The longest parts of the time before now for which a piece asks at moments from now - delay on."""
    shortest = lead(p)
    until = as_moment(now)
    parts = images_from(p.loop, hole, until - (shortest if delay is None else delay))
    if not parts:
        return []
    return repeated(parts, p.loop.span, least([start for start, _ in parts]), until)


def surprise(p, delay):
    """A Surprise that shows that a delay is too small for a piece; None if it is not."""
    if delay >= lead(p):
        return None
    asking = []
    for cell in p.loop.cells:
        asking.extend([(cell, place) for place, route in enumerate(cell[2]) if _gap(cell, route) > delay])
    first_cell, first_place = asking[0]
    return _surprised(p, first_cell, first_place, delay)


def _check_pace(p, holes):
    """Raises NoPace for the first route of the holes that has another speed than 1."""
    # The loop has the same routes, but only the chart has them in its order.
    speeds = [route[3] for cell in p.loop.cells for route in cell[2] if route[0] in holes]
    if all([speed == 1 for speed in speeds]):
        return
    for cell in chart(p).cells:
        for route in cell.routes:
            if route.hole in holes and route.speed != 1:
                raise NoPace(route.hole, route.speed)


def _gap(cell, route):
    """How far ahead a route of speed 1 leads the moments of its cell."""
    begin, end, _, _ = cell
    _, _, slope, _, lag = route
    return later(lag, lag + (slope - 1) * (end - begin))


def _surprised(p, cell, place, delay):
    """The Surprise that the route at the place, which leads further ahead than the delay, is good for."""
    begin, end, routes, table = cell
    low, room = _late_room(cell, routes[place], delay)
    span = p.loop.span
    # The cell is repeated where all of its routes lead behind the moment 0.
    moved = span * max(0, -(least([image_of(begin, end, route)[0] for route in routes]) // span))
    mark = _clear_mark(routes, begin + moved, low + moved, room)
    number = _turning_number(table, place)
    first = {name: [] for name in p.holes}
    second = {name: [] for name in p.holes}
    for other, route in enumerate(routes):
        found = mark_image(mark, route[1:], begin + moved)
        if (number >> other) & 1:
            first[route[0]].append(found)
            second[route[0]].append(found)
        elif other == place:
            second[route[0]].append(found)
    return Surprise(mark.begin, mark.end, mark, first, second, table[number] == "1")


def _late_room(cell, route, delay):
    """The begin and the length of a stretch of the cell all of which a route leads to its end + delay or later."""
    begin, end, _, _ = cell
    _, _, slope, _, _ = route
    # The gap is reached at one end of the cell, and from there it shrinks no faster than this.
    room = earlier(end - begin, (_gap(cell, route) - delay).over(abs(slope) + 1))
    return (end - room if slope > 1 else begin), room


def _clear_mark(routes, start, low, room):
    """A mark in [low, low + room) that no two routes of a hole, in the cell from start on, lead to the same mark."""
    share = 1
    # Two routes lead a mark to the same one only if they mirror each other, at its middle.
    while True:
        mark = Mark(0, low, low + room.over(share))
        found = [(route[0], mark_image(mark, route[1:], start)) for route in routes]
        if not [one for one in found if found.count(one) > 1]:
            return mark
        share = share + 1


def _turning_number(table, place):
    """A number of the table without the route at the place, with which that route turns the character over."""
    bit = 1 << place
    turning = [number for number in range(len(table)) if not number & bit and table[number] != table[number | bit]]
    return turning[0]
