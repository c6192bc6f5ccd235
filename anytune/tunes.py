"""Tunes: patterns that repeat."""

from anytune.errors import NoRounds
from anytune.filling import played
from anytune.leads import mirrored, paced, raised, shifted, slowed
from anytune.loops import hole_loop, joined
from anytune.moments import Moment, as_moment, is_time
from anytune.rows import marks_of, reading, rows_of, tune_form
from anytune.tables import BOTH, EITHER, FIRST_ALONE, JUST_ONE


class Tune:
    """A pattern that repeats after a number of rounds, in its one form."""

    def __init__(self, rounds, marks):
        if rounds < 1:
            raise NoRounds(rounds)
        least, rows = tune_form(Moment(rounds), rows_of(marks))
        self.rounds = least
        self.marks = marks_of(rows)

    @staticmethod
    def empty():
        """The tune that shows nothing."""
        return Tune(1, [])

    def __call__(self, begin, end):
        rows = reading(rows_of(self.marks), Moment(self.rounds), as_moment(begin), as_moment(end))
        return marks_of(rows)

    def __eq__(self, other):
        return isinstance(other, Tune) and self.rounds == other.rounds and self.marks == other.marks

    def __len__(self):
        return len(self.marks)

    def __contains__(self, mark):
        return any([_covers(own, mark, self.rounds) for own in self.marks])

    def __or__(self, other):
        if not isinstance(other, Tune):
            return NotImplemented
        return _joined_tunes(self, other, EITHER)

    def __and__(self, other):
        if not isinstance(other, Tune):
            return NotImplemented
        return _joined_tunes(self, other, BOTH)

    def __sub__(self, other):
        if not isinstance(other, Tune):
            return NotImplemented
        return _joined_tunes(self, other, FIRST_ALONE)

    def __xor__(self, other):
        if not isinstance(other, Tune):
            return NotImplemented
        return _joined_tunes(self, other, JUST_ONE)

    def __add__(self, other):
        if not isinstance(other, int):
            return NotImplemented
        return _led_tune(raised(hole_loop("a"), other), self)

    def __radd__(self, other):
        if not isinstance(other, int):
            return NotImplemented
        return _led_tune(raised(hole_loop("a"), other), self)

    def __lshift__(self, other):
        if not is_time(other):
            return NotImplemented
        return _led_tune(shifted(hole_loop("a"), as_moment(other)), self)

    def __rshift__(self, other):
        if not is_time(other):
            return NotImplemented
        return _led_tune(shifted(hole_loop("a"), -as_moment(other)), self)

    def __mul__(self, other):
        if not is_time(other):
            return NotImplemented
        return _led_tune(paced(hole_loop("a"), other), self)

    def __rmul__(self, other):
        if not is_time(other):
            return NotImplemented
        return _led_tune(paced(hole_loop("a"), other), self)

    def __floordiv__(self, other):
        if not is_time(other):
            return NotImplemented
        return _led_tune(slowed(hole_loop("a"), other), self)

    def __neg__(self):
        return _led_tune(mirrored(hole_loop("a")), self)


def filled_tune(loop, tunes):
    """The tune that a loop shows when its holes are filled with the tunes."""
    fillings = {name: (Moment(tunes[name].rounds), rows_of(tunes[name].marks)) for name in tunes}
    rounds, rows = played(loop, fillings)
    return Tune(rounds, marks_of(rows))


def _joined_tunes(first, second, rule):
    """The tune that the rule makes of two tunes."""
    return filled_tune(joined(hole_loop("a"), hole_loop("b"), rule), {"a": first, "b": second})


def _led_tune(loop, tune):
    """The tune that a loop of the hole a shows."""
    return filled_tune(loop, {"a": tune})


def _covers(own, mark, rounds):
    """Whether a longest part of a tune and its repetitions show a mark throughout its part."""
    if own.tone != mark.tone or own.end - own.begin != mark.end - mark.begin:
        return False
    shift = mark.begin - own.begin
    return shift % rounds == 0 and own.start + shift <= mark.start and mark.stop <= own.stop + shift
