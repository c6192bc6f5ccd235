"""Stretches: lists of parts (start, stop) of time."""

from anytune.times import ascending, earlier, first_from, later


def united(parts):
    """The parts, which are ascending, with those joined that overlap or touch."""
    out = []
    for start, stop in parts:
        if out and start <= out[-1][1]:
            out[-1] = (out[-1][0], later(out[-1][1], stop))
        else:
            out.append((start, stop))
    return out


def repeated(parts, span, low, high):
    """The longest parts of [low, high) that lie in the parts, or in them moved later by a multiple of the span."""
    whole = united(ascending(parts))
    out = []
    at = low
    while at < high:
        turns = _turns_alike([start for start, _ in whole], span, at, high)
        filled = united(ascending([piece for part in whole for piece in _pieces(part, span, at)]))
        # Spans that are filled whole or not at all need not be gone through one by one.
        if filled == [(at, at + span)]:
            out.append((at, at + span * turns))
        elif filled:
            for turn in range(turns):
                out.extend([(start + span * turn, stop + span * turn) for start, stop in filled])
        at = at + span * turns
    return [(start, earlier(stop, high)) for start, stop in united(out) if start < high]


def _turns_alike(starts, span, at, high):
    """How many spans from a moment on, at least one, are filled alike by parts with these starts."""
    until = high
    for start in starts:
        if start > at:
            until = earlier(until, start)
    return max(1, (until - at) // span)


def _pieces(part, span, at):
    """What [at, at + span) has of a part that is moved later by the multiples of the span."""
    start, stop = part
    out = []
    first = span * max(0, (at - start) // span)
    for moved in [first, first + span]:
        low = later(start + moved, at)
        high = earlier(earlier(stop, start + span) + moved, at + span)
        if low < high:
            out.append((low, high))
    return out


def cut(rows, parts):
    """What lies in the parts, which are ascending and do not touch, of rows that begin with a start and a stop."""
    out = []
    stops = [stop for _, stop in parts]
    for row in rows:
        place = first_from(stops, row[0])
        while place < len(parts) and parts[place][0] < row[1]:
            low = later(row[0], parts[place][0])
            high = earlier(row[1], parts[place][1])
            if low < high:
                out.append((low, high, *row[2:]))
            place = place + 1
    return out
