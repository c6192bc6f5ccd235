"""Times: what the other modules need to compare, to order and to search moments."""

from math import gcd, lcm

from anytune.moments import Moment

BOXES_IN_A_ROUND = 1024


def earlier(first, second):
    """The lesser of two moments."""
    return first if first <= second else second


def later(first, second):
    """The greater of two moments."""
    return first if first >= second else second


def greatest(times):
    """The greatest of some times."""
    found = times[0]
    for time in times:
        found = later(found, time)
    return found


def least(times):
    """The least of some times."""
    found = times[0]
    for time in times:
        found = earlier(found, time)
    return found


def common_span(first, second):
    """The least moment that is a multiple of both, which are greater than 0."""
    return Moment(lcm(first.top, second.top), gcd(first.bottom, second.bottom))


def ascending(rows):
    """The rows, which are tuples, in ascending order."""
    if len(rows) < 2:
        return rows
    middle = len(rows) // 2
    first = ascending(rows[:middle])
    second = ascending(rows[middle:])
    # Most lists are in order already.
    if first[-1] <= second[0]:
        return first + second
    return _merged(first, second)


def _merged(first, second):
    """Two ascending lists as one."""
    out = []
    i = 0
    j = 0
    while i < len(first) and j < len(second):
        if second[j] < first[i]:
            out.append(second[j])
            j = j + 1
        else:
            out.append(first[i])
            i = i + 1
    return out + first[i:] + second[j:]


def in_order(rows):
    """The rows, tuples with a moment in front, in ascending order."""
    out = []
    for group in grouped(rows):
        out.extend(ascending(group))
    return out


def grouped(rows):
    """The rows, tuples with a moment in front, as lists of those that have the same one, in its order."""
    groups = {}
    for row in rows:
        groups.setdefault((row[0].top, row[0].bottom), []).append(row)
    # They are put into boxes first, since integers are ordered faster than moments.
    boxes = {}
    for group in groups.values():
        time = group[0][0]
        boxes.setdefault(time.top * BOXES_IN_A_ROUND // time.bottom, []).append((time, group))
    out = []
    for box in sorted([int(key) for key in boxes]):
        # No two of these times are equal, so that the groups themselves are not compared.
        out.extend([group for _, group in ascending(boxes[box])])
    return out


def first_from(points, low):
    """The place of the first of the ascending moments that is not before low."""
    begin = 0
    end = len(points)
    while begin < end:
        middle = (begin + end) // 2
        if points[middle] < low:
            begin = middle + 1
        else:
            end = middle
    return begin


def least_turn(keys):
    """The least number of places by which a ring of keys can be turned without a change."""
    numbers = {}
    for key in keys:
        numbers.setdefault(key, len(numbers))
    ring = [numbers[key] for key in keys]
    for step in range(1, len(ring)):
        if len(ring) % step == 0 and ring[step:] + ring[:step] == ring:
            return step
    return len(ring)
