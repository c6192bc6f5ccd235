"""Tables: which routes have to find a mark so that it is shown.

The table of m routes has 2 ** m characters; character number i says whether a mark is shown that
just those routes j find for which i contains 2 ** j.
"""

from anytune.times import ascending

# What two tables make of a mark that neither shows, the second one alone, the first one alone, both.
EITHER = "0111"
BOTH = "0001"
FIRST_ALONE = "0010"
JUST_ONE = "0110"


def spread(table, weights):
    """The table over other routes, each with the sum of 2 ** j for its numbers j in the old table."""
    places = [0]
    for weight in weights:
        places = places + [place + weight for place in places]
    return "".join([table[place] for place in places])


def needed(routes, table):
    """The routes that matter, with their table."""
    kept = list(routes)
    for place in reversed(range(len(routes))):
        width = 1 << place
        low = [table[k:k + width] for k in range(0, len(table), 2 * width)]
        high = [table[k:k + width] for k in range(width, len(table), 2 * width)]
        if low == high:
            kept.pop(place)
            table = "".join(low)
    return kept, table


def arranged(routes, table):
    """The routes, which are different, in ascending order, with their table."""
    order = ascending([(route, 1 << place) for place, route in enumerate(routes)])
    return [route for route, _ in order], spread(table, [weight for _, weight in order])


def combined(rule, first, first_table, second, second_table):
    """The routes that matter, and their table, when two tables over ascending routes become one."""
    rows = _together(first, second)
    shown = {"00": rule[0], "01": rule[1], "10": rule[2], "11": rule[3]}
    ones = spread(first_table, [row[1] for row in rows])
    twos = spread(second_table, [row[2] for row in rows])
    return needed([row[0] for row in rows], "".join([shown[one + two] for one, two in zip(ones, twos)]))


def _together(first, second):
    """All routes of two ascending lists in one, each with its weights in the first and in the second."""
    rows = []
    i = 0
    j = 0
    while i < len(first) or j < len(second):
        if j == len(second) or (i < len(first) and first[i] < second[j]):
            rows.append((first[i], 1 << i, 0))
            i = i + 1
        elif i == len(first) or second[j] < first[i]:
            rows.append((second[j], 0, 1 << j))
            j = j + 1
        else:
            rows.append((first[i], 1 << i, 1 << j))
            i = i + 1
            j = j + 1
    return rows
