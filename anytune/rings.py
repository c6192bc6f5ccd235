"""Rings: names that wait for each other.

What waits for what is told by a dict from each name to the list of names that it waits for.
"""


def in_turn(waits):
    """The names, each behind those that it waits for, and the names that are left because of rings."""
    done = []
    rest = list(waits)
    while True:
        free = [name for name in rest if not [other for other in waits[name] if other in rest]]
        if not free:
            return done, rest
        done.extend(free)
        rest = [name for name in rest if name not in free]


def ring_of(waits):
    """The names of a ring from its alphabetically first one on, each in front of one that it waits for; or none."""
    _, rest = in_turn(waits)
    if not rest:
        return []
    path = [rest[0]]
    while True:
        after = [other for other in waits[path[-1]] if other in rest][0]
        if after in path:
            ring = path[path.index(after):]
            place = ring.index(min([str(name) for name in ring]))
            return ring[place:] + ring[:place]
        path.append(after)


def all_awaited(waits, name):
    """All names that a name waits for, or that one of these waits for, and so on."""
    found = []
    left = list(waits[name])
    while left:
        other = left.pop()
        if other not in found:
            found.append(other)
            left.extend(waits[other])
    return found
