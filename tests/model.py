"""A second way to say what pieces show: straight from the rules of the document, moment by moment.

Times are Fractions here, and patterns are functions from a time to the set of marks (tone, begin, end)
that they show. The rules hold at all moments but finitely many in every stretch, so the times at which
they are asked have bottoms that occur nowhere else.
"""

import random
from fractions import Fraction
from math import ceil, floor

from anytune.charts import Chart
from anytune.marks import Mark
from anytune.moments import Moment
from anytune.pieces import Piece, turns
from anytune.tunes import Tune


def fraction(time):
    """A Fraction of an integer or a Moment."""
    return Fraction(time.top, time.bottom) if isinstance(time, Moment) else Fraction(time)


def moment(time):
    """A Moment of a Fraction or an integer."""
    return Moment(Fraction(time).numerator, Fraction(time).denominator)


def mark_values(mark):
    return (mark.tone, *[fraction(time) for time in (mark.begin, mark.end, mark.start, mark.stop)])


def row(mark):
    """A Mark object in the order of readings."""
    tone, begin, end, start, stop = mark_values(mark)
    return (start, stop, begin, end, tone)


def tune_pattern(rounds, marks):
    """The pattern of a tune, straight from point 7."""
    values = [mark_values(mark) for mark in marks]

    def shown(t):
        found = set()
        for tone, begin, end, start, stop in values:
            for k in range(floor((t - stop) / rounds), floor((t - start) / rounds) + 1):
                if start + k * rounds <= t < stop + k * rounds:
                    found.add((tone, begin + k * rounds, end + k * rounds))
        return found

    return shown


def take_pattern(marks):
    """The pattern of a recording."""
    values = [mark_values(mark) for mark in marks]
    return lambda t: {(tone, b, e) for tone, b, e, start, stop in values if start <= t < stop}


def reading_at(marks, t):
    """The marks that a reading, a list of Mark objects, shows at t."""
    return take_pattern(marks)(t)


def led(marks, s, c):
    """The marks at t that are shown if these are shown at s * t + c."""
    return {(tone, *sorted([(b - c) / s, (e - c) / s])) for tone, b, e in marks}


def shows(tree, fillings, t):
    """The marks that an expression shows at t; fillings is a dict from names to patterns."""
    kind, *args = tree
    return RULES[kind](fillings, t, *args)


def _led_tree(tree, fillings, t, s, c):
    return led(shows(tree, fillings, s * t + c), s, c)


def _only(fillings, t, tree, begin, end, n):
    return shows(tree, fillings, t) if begin <= t % n < end else set()


def _every(fillings, t, tree, step, other, first):
    return shows(other if (floor(t) - first) % step == 0 else tree, fillings, t)


def _nth(fillings, t, tree, index, step):
    k = floor(t)
    return _led_tree(tree, fillings, t, 1, k * step + index - k)


def _turns(fillings, t, *trees):
    k = floor(t)
    return _led_tree(trees[k % len(trees)], fillings, t, 1, k // len(trees) - k)


def _up(fillings, t, tree, k):
    return {(tone + k, b, e) for tone, b, e in shows(tree, fillings, t)}


RULES = {
    "hole": lambda fillings, t, name: fillings[name](t),
    "silence": lambda fillings, t: set(),
    "or": lambda fillings, t, p, q: shows(p, fillings, t) | shows(q, fillings, t),
    "and": lambda fillings, t, p, q: shows(p, fillings, t) & shows(q, fillings, t),
    "minus": lambda fillings, t, p, q: shows(p, fillings, t) - shows(q, fillings, t),
    "xor": lambda fillings, t, p, q: shows(p, fillings, t) ^ shows(q, fillings, t),
    "up": _up,
    "shift": lambda fillings, t, p, r: _led_tree(p, fillings, t, 1, r),
    "pace": lambda fillings, t, p, r: _led_tree(p, fillings, t, r, 0),
    "mirror": lambda fillings, t, p: _led_tree(p, fillings, t, -1, 2 * floor(t) + 1),
    "only": _only,
    "every": _every,
    "nth": _nth,
    "turns": _turns,
}


def chart_shows(told, fillings, t):
    """What a chart shows at t, straight from point 18."""
    k = floor(t / told.rounds)
    found = {}
    for cell in told.cells:
        begin = fraction(cell.begin) + k * told.rounds
        if begin <= t < fraction(cell.end) + k * told.rounds:
            for j, route in enumerate(cell.routes):
                s = fraction(route.slope)
                c = fraction(route.source) + fraction(route.speed) * told.rounds * k - s * begin
                for tone, b, e in led(fillings[route.hole](s * t + c), s, c):
                    mark = (tone + route.up, b, e)
                    found[mark] = found.get(mark, 0) + 2**j
            return {mark for mark in found if cell.table[found[mark]] == "1"}
    raise AssertionError("the cells do not cover the rounds")


def leads_to(told, hole, u, since=None):
    """Whether a route of the hole in a chart leads a moment of its cell, of those from since on, to u."""
    for cell in told.cells:
        length = fraction(cell.end) - fraction(cell.begin)
        for route in cell.routes:
            slope, source, step = fraction(route.slope), fraction(route.source), fraction(route.speed) * told.rounds
            if route.hole == hole:
                low, high = sorted([(u - source) / step, (u - source - slope * length) / step])
                for k in range(ceil(low), floor(high) + 1):
                    t = fraction(cell.begin) + told.rounds * k + (u - source - step * k) / slope
                    if since is None or t >= since:
                        return True
    return False


class Channels:
    """What the channels of a deck show, straight from points 31 to 33."""

    def __init__(self):
        self.settings = {}
        self.now = Fraction(0)
        self.found = {}

    def set(self, name, thing):
        """Sets a channel to a pattern or to a Chart."""
        counts_from = ceil(self.now)
        older = [setting for setting in self.settings.get(name, []) if setting[0] != counts_from]
        self.settings[name] = [*older, (counts_from, thing)]

    def shown(self, name, t):
        if (name, t) not in self.found:
            self.found[name, t] = self._shown(name, t)
        return self.found[name, t]

    def _shown(self, name, t):
        in_force = [thing for counts_from, thing in self.settings.get(name, []) if counts_from <= t]
        if t < 0 or not in_force:
            return set()
        thing = in_force[-1]
        if not isinstance(thing, Chart):
            return thing(t)
        holes = {route.hole for cell in thing.cells for route in cell.routes}
        return chart_shows(thing, {hole: lambda u, hole=hole: self.shown(hole, u) for hole in holes}, t)


def build(tree):
    """The Piece of an expression."""
    kind, *args = tree
    return BUILDERS[kind](*args)


BUILDERS = {
    "hole": Piece.named,
    "silence": Piece.silence,
    "or": lambda p, q: build(p) | build(q),
    "and": lambda p, q: build(p) & build(q),
    "minus": lambda p, q: build(p) - build(q),
    "xor": lambda p, q: build(p) ^ build(q),
    "up": lambda p, k: build(p) + k,
    "shift": lambda p, r: build(p) << moment(r) if r > 0 else build(p) >> moment(-r),
    "pace": lambda p, r: build(p) * moment(r) if r.numerator > r.denominator else build(p) // moment(1 / r),
    "mirror": lambda p: -build(p),
    "only": lambda p, begin, end, n: build(p).only(moment(begin), moment(end), rounds=n),
    "every": lambda p, step, other, first: build(p).every(step, build(other), first=first),
    "nth": lambda p, index, step: build(p).nth(index, step),
    "turns": lambda *trees: turns(*[build(tree) for tree in trees]),
}


def random_time(dice, low, high):
    """A time that lies at no edge of anything."""
    return Fraction(dice.randrange(low * 100003, high * 100003) * 1009 + 1, 100003 * 1009)


def random_marks(dice, many, rounds=2):
    """Mark objects with few tones and simple times, so that they often meet."""
    marks = []
    for _ in range(many):
        begin = Fraction(dice.randrange(-2 * rounds, 4 * rounds), 2)
        end = begin + Fraction(dice.choice([1, 1, 2, 2, 3, 4, 6]), 2)
        start, stop = begin, end
        if dice.random() < 0.3:
            start = begin + (end - begin) * dice.choice([0, Fraction(1, 3)])
            stop = end - (end - begin) * dice.choice([0, Fraction(1, 3)])
        mark = Mark(dice.randrange(2), moment(begin), moment(end), start=moment(start), stop=moment(stop))
        marks.append(mark)
    return marks


def random_tune(dice):
    """A number of rounds and marks."""
    rounds = dice.choice([1, 1, 2, 2, 3])
    return rounds, random_marks(dice, dice.randrange(4), rounds)


def random_tree(dice, size, names="xy"):
    """An expression with so many operators."""
    if size == 0:
        return ("silence",) if dice.random() < 0.03 else ("hole", dice.choice(names))
    kind = dice.choice(sorted(set(RULES) - {"hole", "silence"}))
    if kind in ("or", "and", "minus", "xor"):
        left = dice.randrange(size)
        return (kind, random_tree(dice, left, names), random_tree(dice, size - 1 - left, names))
    if kind == "turns":
        many = dice.choice([1, 2, 2, 3])
        return (kind, *[random_tree(dice, (size - 1) // many, names) for _ in range(many)])
    inner = random_tree(dice, size - 1 if kind != "every" else (size - 1) // 2, names)
    if kind == "up":
        return (kind, inner, dice.choice([-1, 1]))
    if kind == "shift":
        return (kind, inner, Fraction(dice.choice([-5, -3, -2, -1, 1, 2, 3, 5]), dice.choice([1, 1, 2, 3])))
    if kind == "pace":
        return (kind, inner, dice.choice([Fraction(1, 2), Fraction(2), Fraction(3, 2), Fraction(2, 3)]))
    if kind == "mirror":
        return (kind, inner)
    if kind == "only":
        n = dice.choice([1, 1, 2])
        begin = Fraction(dice.randrange(4 * n), 4)
        return (kind, inner, begin, begin + Fraction(dice.randrange(1, 4 * n + 1 - int(begin * 4)), 4), n)
    if kind == "every":
        other = random_tree(dice, (size - 1) // 2, names)
        return (kind, inner, dice.choice([1, 2, 2, 3]), other, dice.randrange(-3, 4))
    return (kind, inner, dice.randrange(-3, 4), dice.choice([1, 2, 2, 3]))


def random_chart(dice, speeds=("1",), holes="xy", routes=3):
    """A piece of a chart that has been read, with so many routes in a cell at most."""
    rounds = dice.choice([1, 1, 2, 3])
    inner = {Fraction(dice.randrange(1, 4 * rounds), 4) for _ in range(dice.randrange(4))}
    edges = [Fraction(0), *sorted(inner), Fraction(rounds)]
    lines = [f"rounds {rounds}"]
    for begin, end in zip(edges, edges[1:]):
        found = []
        many = dice.randrange(routes + 1)
        while len(found) < many:
            slope = dice.choice(["1", "1", "-1", "2", "-2", "1/2", "-1/2", "3"])
            source = moment(Fraction(dice.randrange(-8, 9), dice.choice([1, 2, 4])))
            route = f"route {dice.choice(holes)} {dice.choice([0, 0, 1])} {slope} {source} {dice.choice(speeds)}"
            if route not in found:
                found.append(route)
        table = "01" if many == 1 else "0" + "".join([dice.choice("01") for _ in range(2**many - 1)])
        lines.extend([f"cell {moment(begin)} {moment(end)} {table}", *found])
    return Chart.read("\n".join(lines)).piece()


def between(dice, low, high):
    """A time between two others that lies at no edge of anything."""
    return low + (high - low) * Fraction(dice.randrange(1, 100003 * 1009), 100003 * 1009)


def cut(marks, low, high):
    """The parts of Mark objects that lie in [low, high)."""
    out = []
    for mark in marks:
        tone, begin, end, start, stop = mark_values(mark)
        if max(start, low) < min(stop, high):
            out.append(part(tone, begin, end, max(start, low), min(stop, high)))
    return out


def part(tone, begin, end, start, stop):
    """A Mark object of Fractions."""
    return Mark(tone, moment(begin), moment(end), start=moment(start), stop=moment(stop))


def joined(marks):
    """The reading that Mark objects make up: parts of the same mark that overlap or touch are one."""
    parts = {}
    for start, stop, *key in sorted([row(mark) for mark in marks]):
        found = parts.setdefault(tuple(key), [])
        if found and start <= found[-1][1]:
            found[-1] = (found[-1][0], max(stop, found[-1][1]))
        else:
            found.append((start, stop))
    rows = sorted([(*stretch, *key) for key in parts for stretch in parts[key]])
    return [part(tone, begin, end, start, stop) for start, stop, begin, end, tone in rows]


def dice(seed):
    return random.Random(seed)


def told(marks):
    """Mark objects as short texts: tone, begin, end, start, stop."""
    return [f"{mark.tone} {mark.begin} {mark.end} {mark.start} {mark.stop}" for mark in marks]


def copied(marks):
    """The same marks as new objects in a new list."""
    return [Mark(mark.tone, mark.begin, mark.end, start=mark.start, stop=mark.stop) for mark in marks]
