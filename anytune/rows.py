"""Rows: marks and their parts as tuples (start, stop, begin, end, tone), which stand in the order of readings."""

from anytune.marks import Mark
from anytune.stretches import united
from anytune.times import ascending, earlier, in_order, later, least_turn


def rows_of(marks):
    """The rows of Mark objects."""
    return [(mark.start, mark.stop, mark.begin, mark.end, mark.tone) for mark in marks]


def marks_of(rows):
    """The Mark objects of rows."""
    return [Mark(tone, begin, end, start=start, stop=stop) for start, stop, begin, end, tone in rows]


def moved(row, time):
    """The row with all of its times later by the time."""
    start, stop, begin, end, tone = row
    return start + time, stop + time, begin + time, end + time, tone


def mark_key(row):
    """The mark of a row as integers alone."""
    _, _, begin, end, tone = row
    return tone, begin.top, begin.bottom, end.top, end.bottom


def longest(rows):
    """The longest parts that the rows make up, in order."""
    return in_order(rejoined(rows))


def rejoined(rows):
    """The longest parts that the rows make up, in any order."""
    parts = {}
    for row in rows:
        parts.setdefault(mark_key(row), []).append(row)
    out = []
    for same in parts.values():
        if len(same) == 1:
            out.extend(same)
        else:
            stretches = united(ascending([row[:2] for row in same]))
            out.extend([(start, stop, *same[0][2:]) for start, stop in stretches])
    return out


def reading(rows, span, low, high):
    """The rows of the reading in [low, high) of longest parts that repeat after the span."""
    if low >= high:
        return []
    out = []
    for row in rows:
        for turn in range((low - row[1]) // span + 1, -((row[0] - high) // span)):
            start, stop, begin, end, tone = moved(row, span * turn)
            out.append((later(start, low), earlier(stop, high), begin, end, tone))
    return in_order(out)


def tune_form(span, rows):
    """The least number of rounds after which rows repeat that repeat after the span, and their longest parts."""
    homed = longest([moved(row, -(span * (row[2] // span))) for row in rows])
    ring = in_order([moved(row, -(span * (row[0] // span))) for row in homed])
    if not ring:
        return 1, []
    step = least_turn(_ring_keys(span, ring))
    least = span.over(len(ring) // step)
    out = []
    for turn in range(least.bottom):
        out.extend([moved(row, least * turn) for row in ring[:step]])
    return least.top, out


def _ring_keys(span, ring):
    """A key for each row of a ring: what it shows, and how long it is until the next one starts."""
    keys = []
    for place, row in enumerate(ring):
        after = ring[place + 1][0] if place + 1 < len(ring) else ring[0][0] + span
        gap = after - row[0]
        length = row[1] - row[0]
        keys.append((gap.top, gap.bottom, length.top, length.bottom, *mark_key(moved(row, -row[0]))))
    return keys

