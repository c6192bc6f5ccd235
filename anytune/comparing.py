"""Comparing pieces for all fillings of their holes."""

from anytune.errors import NotPlain
from anytune.images import mark_image
from anytune.loops import overlaid, same_loop, silent_loop
from anytune.marks import Mark
from anytune.moments import Moment
from anytune.tables import BOTH, FIRST_ALONE, JUST_ONE, combined
from anytune.times import earlier
from anytune.tunes import Tune


class Parting:
    """A filling that parts two pieces, with a moment and a mark that just one of them shows then."""

    def __init__(self, moment, mark, filling, left):
        self.moment = moment
        self.mark = mark
        self.filling = filling
        self.left = left


def alike(p, q, *, given=None):
    """Whether p and q show the same for every filling that counts."""
    _check_plain(given)
    # The form of a loop is its only one, so this settles most questions.
    if given is None or same_loop(p.loop, q.loop):
        return same_loop(p.loop, q.loop)
    return not _findings(p.loop, q.loop, JUST_ONE, given)


def within(p, q, *, given=None):
    """Whether q shows all that p shows, for every filling that counts."""
    _check_plain(given)
    return not _findings(p.loop, q.loop, FIRST_ALONE, given)


def apart(p, q, *, given=None):
    """Whether p and q never show the same mark at once, for any filling that counts."""
    _check_plain(given)
    return not _findings(p.loop, q.loop, BOTH, given)


def silent(p, *, given=None):
    """Whether p shows nothing, for every filling that counts."""
    _check_plain(given)
    return not _findings(p.loop, silent_loop(), JUST_ONE, given)


def parting(p, q, *, given=None):
    """A Parting of p and q, or None if they are alike."""
    _check_plain(given)
    if same_loop(p.loop, q.loop):
        return None
    findings = _findings(p.loop, q.loop, JUST_ONE, given)
    if not findings:
        return None
    pieces = [p, q] if given is None else [p, q, given]
    names = {}
    for piece in pieces:
        for name in piece.holes:
            names[name] = True
    return _parted(findings[0], list(names))


def _check_plain(given):
    """Raises NotPlain if the restriction is built from more than it may be."""
    if given is not None and not given.plain:
        raise NotPlain()


def _findings(first, second, rule, given):
    """At most one finding, of a cell in which the rule shows a mark for a filling that counts.

    It is a tuple of the span of both loops, the begin and the end of the cell, the first loop's routes
    and table in it, and the points that have to be filled.
    """
    holes, vectors = _allowed(given)
    span, rows = overlaid(first, second)
    for begin, end, (routes, table), (others, other_table) in rows:
        kept, shown = combined(rule, routes, table, others, other_table)
        if "1" in shown:
            points = _points(kept, shown, holes, vectors)
            if points:
                return [(span, begin, end, routes, table, points)]
    return []


def _allowed(given):
    """The holes of the restriction, and the lists of those that may show a mark at once."""
    if given is None:
        return [], [[]]
    _, _, routes, table = given.loop.cells[0]
    holes = [route[0] for route in routes]
    vectors = []
    for number in range(len(table)):
        if table[number] == "0":
            vectors.append([hole for place, hole in enumerate(holes) if (number >> place) & 1])
    return holes, vectors


def _points(routes, table, holes, vectors):
    """The points of fillings that count and with which the table shows a mark; none if there are no such.

    A point is where routes lead a mark to, as a tuple (up, slope, speed, lag, shown); shown is a dict
    that says of holes whether they show the mark there. Different points are filled independently.
    """
    groups = {}
    for place, route in enumerate(routes):
        groups.setdefault(_point_key(route), []).append(place)
    choices = [_choices(groups[key], routes, vectors) for key in groups]
    masks = [_mask(groups[key], routes, holes) for key in groups]
    for number in range(len(table)):
        if table[number] == "1" and all([number & mask in bits for mask, bits in zip(masks, choices)]):
            return [
                _point(groups[key], routes, number, holes, bits[number & mask])
                for key, mask, bits in zip(groups, masks, choices)
            ]
    return []


def _point_key(route):
    """Where a route leads to, as integers alone."""
    _, up, slope, speed, lag = route
    return up, slope.top, slope.bottom, speed.top, speed.bottom, lag.top, lag.bottom


def _choices(places, routes, vectors):
    """For each choice that counts of the routes at a point that find a mark: a list of all holes to show it."""
    choices = {}
    for vector in vectors:
        choices[_mask(places, routes, vector)] = vector
    return choices


def _mask(places, routes, holes):
    """The sum of 2 ** place for the places of routes of the holes."""
    return sum([1 << place for place in places if routes[place][0] in holes])


def _point(places, routes, number, holes, vector):
    """The point of some routes, when the routes of the number find a mark."""
    shown = {hole: hole in vector for hole in holes}
    for place in places:
        shown[routes[place][0]] = (number >> place) & 1 == 1
    _, up, slope, speed, lag = routes[places[0]]
    return up, slope, speed, lag, shown


def _parted(finding, names):
    """The Parting that a finding leads to."""
    span, begin, end, routes, table, points = finding
    room = earlier(end, Moment(begin // 1 + 1)) - begin
    trial = 0
    # Points that differ may fall together for a few stretches, and for a few numbers of rounds.
    while True:
        start = begin + span * trial
        first = start + room.over(trial + 5)
        mark = Mark(0, first, first + room.over(2))
        images = [mark_image(mark, point[:4], start) for point in points]
        for rounds in range(1, 8 * trial + 16):
            filling = _filling(points, images, names, rounds)
            if _holds(points, images, filling):
                found = [mark_image(mark, route[1:], start) in filling[route[0]] for route in routes]
                number = sum([1 << place for place, one in enumerate(found) if one])
                return Parting(first + room.over(5), mark, filling, table[number] == "1")
        trial = trial + 1


def _filling(points, images, names, rounds):
    """The tunes that show the images of the points that they have to show."""
    filling = {}
    for name in names:
        marks = [image for point, image in zip(points, images) if point[4].get(name, False)]
        filling[name] = Tune(rounds, marks)
    return filling


def _holds(points, images, filling):
    """Whether the tunes show at each point what they have to show, and nothing else."""
    for point, image in zip(points, images):
        shown = point[4]
        if any([(image in filling[name]) != shown[name] for name in shown]):
            return False
    return True
