"""Images: where the routes of cells lead to."""

from anytune.loops import window_cells
from anytune.marks import Mark


def image_of(begin, end, route):
    """The stretch to which a route leads the cell [begin, end)."""
    _, _, slope, speed, lag = route
    first = lag + speed * begin
    last = first + slope * (end - begin)
    return (last, first) if slope < 0 else (first, last)


def images_in(cells, hole):
    """The stretches to which the routes of a hole lead the cells."""
    out = []
    for begin, end, routes, _ in cells:
        out.extend([image_of(begin, end, route) for route in routes if route[0] == hole])
    return out


def images_from(loop, hole, since):
    """The stretches to which the routes of a hole lead the moments of one span of the loop from a moment on."""
    return images_in(window_cells(loop, since, since + loop.span), hole)


def gaps(loop, holes):
    """How far ahead the routes of the holes, which have speed 1, lead the moments at the ends of their cells."""
    out = []
    for begin, end, routes, _ in loop.cells:
        for hole, _, slope, _, lag in routes:
            if hole in holes:
                out.append(lag)
                out.append(lag + (slope - 1) * (end - begin))
    return out


def mark_image(mark, way, start):
    """The mark that has to be shown by a filling, for a way (up, slope, speed, lag) in the cell from start on."""
    up, slope, speed, lag = way
    first = lag + speed * start + slope * (mark.begin - start)
    last = first + slope * (mark.end - mark.begin)
    if slope < 0:
        return Mark(mark.tone - up, last, first)
    return Mark(mark.tone - up, first, last)
