"""A second way to say what pieces show: straight from the rules of the document, moment by moment.

Times are Fractions here, and patterns are functions from a time to the set of marks (tone, begin, end)
that they show. The rules hold at all moments but finitely many in every stretch, so the times at which
they are asked have bottoms that occur nowhere else.
"""

import random
from fractions import Fraction
from math import floor

from anytune.marks import Mark
from anytune.moments import Moment
from anytune.pieces import Piece, turns
from anytune.tunes import Tune


def fraction(time):
    """A Fraction of an integer or a Moment."""
    return Fraction(time.top, time.bottom) if isinstance(time, Moment) else Fraction(time)


def moment(time):
    """A Moment of a Fraction or an integer."""
    return Moment(Fraction(time).numerator, Fraction(time).denominator)


def mark_values(mark):
    return (mark.tone, *[fraction(time) for time in (mark.begin, mark.end, mark.start, mark.stop)])


def row(mark):
    """A Mark object in the order of readings."""
    tone, begin, end, start, stop = mark_values(mark)
    return (start, stop, begin, end, tone)


def tune_pattern(rounds, marks):
    """The pattern of a tune, straight from point 7."""
    values = [mark_values(mark) for mark in marks]

    def shown(t):
        found = set()
        for tone, begin, end, start, stop in values:
            for k in range(floor((t - stop) / rounds), floor((t - start) / rounds) + 1):
                if start + k * rounds <= t < stop + k * rounds:
                    found.add((tone, begin + k * rounds, end + k * rounds))
        return found

    return shown


def take_pattern(marks):
    """The pattern of a recording."""
    values = [mark_values(mark) for mark in marks]
    return lambda t: {(tone, b, e) for tone, b, e, start, stop in values if start <= t < stop}


def reading_at(marks, t):
    """The marks that a reading, a list of Mark objects, shows at t."""
    return take_pattern(marks)(t)


def led(marks, s, c):
    """The marks at t that are shown if these are shown at s * t + c."""
    return {(tone, *sorted([(b - c) / s, (e - c) / s])) for tone, b, e in marks}


def shows(tree, fillings, t):
    """The marks that an expression shows at t; fillings is a dict from names to patterns."""
    kind, *args = tree
    return RULES[kind](fillings, t, *args)


def _led_tree(tree, fillings, t, s, c):
    return led(shows(tree, fillings, s * t + c), s, c)


def _only(fillings, t, tree, begin, end, n):
    return shows(tree, fillings, t) if begin <= t % n < end else set()


def _every(fillings, t, tree, step, other, first):
    return shows(other if (floor(t) - first) % step == 0 else tree, fillings, t)


def _nth(fillings, t, tree, index, step):
    k = floor(t)
    return _led_tree(tree, fillings, t, 1, k * step + index - k)


def _turns(fillings, t, *trees):
    k = floor(t)
    return _led_tree(trees[k % len(trees)], fillings, t, 1, k // len(trees) - k)


def _up(fillings, t, tree, k):
    return {(tone + k, b, e) for tone, b, e in shows(tree, fillings, t)}


RULES = {
    "hole": lambda fillings, t, name: fillings[name](t),
    "silence": lambda fillings, t: set(),
    "or": lambda fillings, t, p, q: shows(p, fillings, t) | shows(q, fillings, t),
    "and": lambda fillings, t, p, q: shows(p, fillings, t) & shows(q, fillings, t),
    "minus": lambda fillings, t, p, q: shows(p, fillings, t) - shows(q, fillings, t),
    "xor": lambda fillings, t, p, q: shows(p, fillings, t) ^ shows(q, fillings, t),
    "up": _up,
    "shift": lambda fillings, t, p, r: _led_tree(p, fillings, t, 1, r),
    "pace": lambda fillings, t, p, r: _led_tree(p, fillings, t, r, 0),
    "mirror": lambda fillings, t, p: _led_tree(p, fillings, t, -1, 2 * floor(t) + 1),
    "only": _only,
    "every": _every,
    "nth": _nth,
    "turns": _turns,
}


def build(tree):
    """The Piece of an expression."""
    kind, *args = tree
    return BUILDERS[kind](*args)


BUILDERS = {
    "hole": Piece.named,
    "silence": Piece.silence,
    "or": lambda p, q: build(p) | build(q),
    "and": lambda p, q: build(p) & build(q),
    "minus": lambda p, q: build(p) - build(q),
    "xor": lambda p, q: build(p) ^ build(q),
    "up": lambda p, k: build(p) + k,
    "shift": lambda p, r: build(p) << moment(r) if r > 0 else build(p) >> moment(-r),
    "pace": lambda p, r: build(p) * moment(r) if r.numerator > r.denominator else build(p) // moment(1 / r),
    "mirror": lambda p: -build(p),
    "only": lambda p, begin, end, n: build(p).only(moment(begin), moment(end), rounds=n),
    "every": lambda p, step, other, first: build(p).every(step, build(other), first=first),
    "nth": lambda p, index, step: build(p).nth(index, step),
    "turns": lambda *trees: turns(*[build(tree) for tree in trees]),
}


def random_time(dice, low, high):
    """A time that lies at no edge of anything."""
    return Fraction(dice.randrange(low * 100003, high * 100003) * 1009 + 1, 100003 * 1009)


def random_marks(dice, many, rounds=2):
    """Mark objects with few tones and simple times, so that they often meet."""
    marks = []
    for _ in range(many):
        begin = Fraction(dice.randrange(-2 * rounds, 4 * rounds), 2)
        end = begin + Fraction(dice.choice([1, 1, 2, 2, 3, 4, 6]), 2)
        start, stop = begin, end
        if dice.random() < 0.3:
            start = begin + (end - begin) * dice.choice([0, Fraction(1, 3)])
            stop = end - (end - begin) * dice.choice([0, Fraction(1, 3)])
        mark = Mark(dice.randrange(2), moment(begin), moment(end), start=moment(start), stop=moment(stop))
        marks.append(mark)
    return marks


def random_tune(dice):
    """A number of rounds and marks."""
    rounds = dice.choice([1, 1, 2, 2, 3])
    return rounds, random_marks(dice, dice.randrange(4), rounds)


def random_tree(dice, size, names="xy"):
    """An expression with so many operators."""
    if size == 0:
        return ("silence",) if dice.random() < 0.03 else ("hole", dice.choice(names))
    kind = dice.choice(sorted(set(RULES) - {"hole", "silence"}))
    if kind in ("or", "and", "minus", "xor"):
        left = dice.randrange(size)
        return (kind, random_tree(dice, left, names), random_tree(dice, size - 1 - left, names))
    if kind == "turns":
        many = dice.choice([1, 2, 2, 3])
        return (kind, *[random_tree(dice, (size - 1) // many, names) for _ in range(many)])
    inner = random_tree(dice, size - 1 if kind != "every" else (size - 1) // 2, names)
    if kind == "up":
        return (kind, inner, dice.choice([-1, 1]))
    if kind == "shift":
        return (kind, inner, Fraction(dice.choice([-5, -3, -2, -1, 1, 2, 3, 5]), dice.choice([1, 1, 2, 3])))
    if kind == "pace":
        return (kind, inner, dice.choice([Fraction(1, 2), Fraction(2), Fraction(3, 2), Fraction(2, 3)]))
    if kind == "mirror":
        return (kind, inner)
    if kind == "only":
        n = dice.choice([1, 1, 2])
        begin = Fraction(dice.randrange(4 * n), 4)
        return (kind, inner, begin, begin + Fraction(dice.randrange(1, 4 * n + 1 - int(begin * 4)), 4), n)
    if kind == "every":
        other = random_tree(dice, (size - 1) // 2, names)
        return (kind, inner, dice.choice([1, 2, 2, 3]), other, dice.randrange(-3, 4))
    return (kind, inner, dice.randrange(-3, 4), dice.choice([1, 2, 2, 3]))


def dice(seed):
    return random.Random(seed)


def told(marks):
    """Mark objects as short texts: tone, begin, end, start, stop."""
    return [f"{mark.tone} {mark.begin} {mark.end} {mark.start} {mark.stop}" for mark in marks]


def copied(marks):
    """The same marks as new objects in a new list."""
    return [Mark(mark.tone, mark.begin, mark.end, start=mark.start, stop=mark.stop) for mark in marks]
