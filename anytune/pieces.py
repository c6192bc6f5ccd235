"""Pieces: expressions with named holes."""

from anytune.errors import NoName, NoStep, NoTurns, NoWindow, Unfilled
from anytune.filling import overheard
from anytune.leads import in_turns, mirrored, paced, picked, raised, shifted, slowed, window
from anytune.loops import hole_loop, joined, silent_loop
from anytune.moments import Moment, as_moment, is_time
from anytune.names import is_name
from anytune.rows import longest, marks_of, rows_of
from anytune.tables import BOTH, EITHER, FIRST_ALONE, JUST_ONE
from anytune.tunes import filled_tune


class Piece:
    """An expression with named holes, kept as the loop that says what it shows.

    The names of its holes are kept beside it, since the loop has the routes that matter alone. A piece
    is plain if it is built from holes and silence with the operators of two pieces alone.
    """

    def __init__(self, loop, hole_names, plain):
        self.loop = loop
        self.hole_names = hole_names
        self.plain = plain

    @staticmethod
    def named(name):
        """A hole."""
        if not is_name(name):
            raise NoName(name)
        return Piece(hole_loop(name), [name], True)

    @staticmethod
    def silence():
        """The piece that shows nothing."""
        return Piece(silent_loop(), [], True)

    @property
    def holes(self):
        """The sorted names of all holes of the expression."""
        return list(self.hole_names)

    def __or__(self, other):
        if not isinstance(other, Piece):
            return NotImplemented
        return _joined_pieces(self, other, EITHER)

    def __and__(self, other):
        if not isinstance(other, Piece):
            return NotImplemented
        return _joined_pieces(self, other, BOTH)

    def __sub__(self, other):
        if not isinstance(other, Piece):
            return NotImplemented
        return _joined_pieces(self, other, FIRST_ALONE)

    def __xor__(self, other):
        if not isinstance(other, Piece):
            return NotImplemented
        return _joined_pieces(self, other, JUST_ONE)

    def __add__(self, other):
        if not isinstance(other, int):
            return NotImplemented
        return Piece(raised(self.loop, other), self.hole_names, False)

    def __radd__(self, other):
        if not isinstance(other, int):
            return NotImplemented
        return Piece(raised(self.loop, other), self.hole_names, False)

    def __lshift__(self, other):
        if not is_time(other):
            return NotImplemented
        return Piece(shifted(self.loop, as_moment(other)), self.hole_names, False)

    def __rshift__(self, other):
        if not is_time(other):
            return NotImplemented
        return Piece(shifted(self.loop, -as_moment(other)), self.hole_names, False)

    def __mul__(self, other):
        if not is_time(other):
            return NotImplemented
        return Piece(paced(self.loop, other), self.hole_names, False)

    def __rmul__(self, other):
        if not is_time(other):
            return NotImplemented
        return Piece(paced(self.loop, other), self.hole_names, False)

    def __floordiv__(self, other):
        if not is_time(other):
            return NotImplemented
        return Piece(slowed(self.loop, other), self.hole_names, False)

    def __neg__(self):
        return Piece(mirrored(self.loop), self.hole_names, False)

    def only(self, begin, end, *, rounds=1):
        """The piece within [begin, end) of each so many rounds, and nothing elsewhere."""
        if not (rounds >= 1 and 0 <= begin < end <= rounds):
            raise NoWindow(begin, end, rounds)
        return Piece(joined(self.loop, window(begin, end, rounds), BOTH), self.hole_names, False)

    def every(self, step, other, *, first=0):
        """The other piece in round first and each round that is a multiple of step from it."""
        if step < 1:
            raise NoStep(step)
        chosen = window(first % step, first % step + 1, step)
        rest = joined(self.loop, chosen, FIRST_ALONE)
        loop = joined(rest, joined(other.loop, chosen, BOTH), EITHER)
        return Piece(loop, _all_names([self, other]), False)

    def nth(self, index, step):
        """The piece whose round k shows round k * step + index."""
        if step < 1:
            raise NoStep(step)
        return Piece(picked(self.loop, index, step), self.hole_names, False)

    def filled(self, **tunes):
        """The tune that the piece shows when each hole is filled with the tune of its name."""
        for name in self.hole_names:
            if name not in tunes:
                raise Unfilled(name)
        return filled_tune(self.loop, {name: tunes[name] for name in self.hole_names})

    def over(self, takes, begin, end):
        """The reading in [begin, end) when the holes are filled with recordings."""
        low = as_moment(begin)
        high = as_moment(end)
        fillings = {}
        for name in self.hole_names:
            if name in takes:
                fillings[name] = (Moment(0), longest(rows_of(takes[name])))
        return marks_of(overheard(self.loop, fillings, low, high))


def turns(*pieces):
    """The piece that shows the pieces in turns, each of them with its own next round."""
    if not pieces:
        raise NoTurns()
    return Piece(in_turns([piece.loop for piece in pieces]), _all_names(pieces), False)


def _joined_pieces(first, second, rule):
    """The piece that the rule makes of two pieces."""
    loop = joined(first.loop, second.loop, rule)
    return Piece(loop, _all_names([first, second]), first.plain and second.plain)


def _all_names(pieces):
    """The sorted names of the holes of all pieces."""
    names = {}
    for piece in pieces:
        for name in piece.hole_names:
            names[name] = True
    return sorted([str(name) for name in names])
