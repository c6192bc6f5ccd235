"""Leads: the loops of pieces that lead a moment to another one, or choose by the round or a window."""

from math import gcd, lcm

from anytune.errors import BadPace
from anytune.loops import Loop, restricted, settled, unrolled
from anytune.moments import Moment, as_moment
from anytune.tables import arranged


def raised(loop, tones):
    """The loop with all tones raised."""
    cells = []
    for begin, end, routes, table in loop.cells:
        moved = [(hole, up + tones, slope, speed, lag) for hole, up, slope, speed, lag in routes]
        cells.append((begin, end, moved, table))
    return Loop(loop.span, cells, loop.steady)


def shifted(loop, time):
    """The loop that leads t to t + time."""
    span = loop.span
    gap = time % span
    cells = []
    for begin, end, routes, table in restricted(unrolled(loop, span * 2), gap, gap + span):
        moved = [(hole, up, slope, speed, lag + speed * time) for hole, up, slope, speed, lag in routes]
        cells.append((begin - gap, end - gap, moved, table))
    return settled(span, cells)


def paced(loop, pace):
    """The loop that leads t to pace * t."""
    if pace <= 0:
        raise BadPace(pace)
    return _scaled(loop, as_moment(pace))


def slowed(loop, pace):
    """The loop that leads t to t / pace."""
    if pace <= 0:
        raise BadPace(pace)
    return _scaled(loop, Moment(1).over(pace))


def _scaled(loop, pace):
    """The loop that leads t to pace * t, for a moment greater than 0."""
    length = Moment(1) if loop.steady else pace
    cells = []
    for begin, end, routes, table in loop.cells:
        moved = [(hole, up, slope * pace, speed * pace, lag) for hole, up, slope, speed, lag in routes]
        cells.append((begin.over(length), end.over(length), moved, table))
    return Loop(loop.span.over(length), cells, loop.steady)


def mirrored(loop):
    """The loop that leads t to 2 * k + 1 - t in round k."""
    rounds = []
    for cells in _by_rounds(loop):
        rounds.append([_mirrored_cell(cell) for cell in cells[::-1]])
    return _from_rounds(rounds)


def _mirrored_cell(cell):
    """A cell of a round, in the mirrored round."""
    begin, end, routes, table = cell
    moved = []
    # The new cell begins at 1 - end of its round, from where a route leads to the old end.
    for hole, up, slope, speed, lag in routes:
        moved.append((hole, up, -slope, speed, lag + speed * (begin + end - 1) + slope * (end - begin)))
    kept, shown = arranged(moved, table)
    return 1 - end, 1 - begin, kept, shown


def picked(loop, index, step):
    """The loop that shows round k * step + index in round k."""
    old = _by_rounds(loop)
    rounds = []
    for k in range(len(old) // gcd(len(old), step)):
        rounds.append([_picked_cell(cell, index, step) for cell in old[(k * step + index) % len(old)]])
    return _from_rounds(rounds)


def _picked_cell(cell, index, step):
    """A cell of a round, in the round that shows it."""
    begin, end, routes, table = cell
    moved = []
    # The new cell begins at c = k + begin, the old one at c + k * (step - 1) + index, and k is c - begin.
    for hole, up, slope, speed, lag in routes:
        moved.append((hole, up, slope, speed * step, lag + speed * index - speed * begin * (step - 1)))
    return begin, end, moved, table


def in_turns(loops):
    """The loop that shows the loops in turns, each of them with its own next round."""
    many = len(loops)
    all_rounds = [_by_rounds(loop) for loop in loops]
    length = 1
    for rounds in all_rounds:
        length = lcm(length, len(rounds))
    out = []
    for k in range(many * length):
        rounds = all_rounds[k % many]
        out.append([_turned_cell(cell, k % many, many) for cell in rounds[k // many % len(rounds)]])
    return _from_rounds(out)


def _turned_cell(cell, number, many):
    """A cell of a round of the loop with this number, in the round that shows it."""
    begin, end, routes, table = cell
    # The new cell begins at c = k + begin, the old one at j + begin, and k is j * many + number.
    gap = begin - (begin + number).over(many)
    moved = [(hole, up, slope, speed.over(many), lag + speed * gap) for hole, up, slope, speed, lag in routes]
    return begin, end, moved, table


def _by_rounds(loop):
    """The cells of each round until the loop repeats, each of them with its times in the round."""
    rounds = [[] for _ in range(loop.span.top)]
    for cell in unrolled(loop, Moment(loop.span.top)):
        for k in range(cell[0] // 1, -(-cell[1] // 1)):
            for begin, end, routes, table in restricted([cell], Moment(k), Moment(k + 1)):
                rounds[k].append((begin - k, end - k, routes, table))
    return rounds


def _from_rounds(rounds):
    """The loop of rounds as _by_rounds makes them."""
    cells = []
    for k, rows in enumerate(rounds):
        cells.extend([(begin + k, end + k, routes, table) for begin, end, routes, table in rows])
    return settled(Moment(len(rounds)), cells)


def window(begin, end, rounds):
    """A loop without routes whose table is 1 in [begin, end) of each so many rounds, and 0 elsewhere."""
    cells = []
    for low, high, table in [(0, begin, "0"), (begin, end, "1"), (end, rounds, "0")]:
        if low < high:
            cells.append((as_moment(low), as_moment(high), [], table))
    return settled(as_moment(rounds), cells)
