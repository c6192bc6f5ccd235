"""Moments: exact fractions without bounds in either direction."""

from math import gcd

from anytune.errors import NoMoment, NoText

MOST_DIGITS = 60
BLOCK_DIGITS = 60
BLOCK = 10 ** 60


class Moment:
    """A fraction in lowest terms with a positive bottom."""

    def __init__(self, top, bottom=1):
        if bottom == 0:
            raise NoMoment(top, bottom)
        shared = gcd(top, bottom) if bottom > 0 else -gcd(top, bottom)
        self.top = top // shared
        self.bottom = bottom // shared

    @staticmethod
    def read(text):
        """The moment that is written as the text."""
        top, slash, bottom = text.partition("/")
        under = bottom if slash else "1"
        if _is_number(top.removeprefix("-")) and _is_number(under) and int(under) > 0:
            found = Moment(int(top), int(under))
            # Of all texts for a fraction, such as 2/4, 01/2 and 1/2, one alone counts.
            if str(found) == text:
                return found
        raise NoText(text)

    def __str__(self):
        if self.bottom == 1:
            return f"{_decimal(self.top)}"
        return f"{_decimal(self.top)}/{_decimal(self.bottom)}"

    def __repr__(self):
        return f"Moment({_decimal(self.top)}, {_decimal(self.bottom)})"

    def __bool__(self):
        return bool(self.top)

    def __neg__(self):
        return Moment(-self.top, self.bottom)

    def __abs__(self):
        return Moment(abs(self.top), self.bottom)

    def __eq__(self, other):
        if isinstance(other, Moment):
            return self.top == other.top and self.bottom == other.bottom
        return isinstance(other, int) and self.bottom == 1 and self.top == other

    def __lt__(self, other):
        if isinstance(other, Moment):
            return self.top * other.bottom < other.top * self.bottom
        if isinstance(other, int):
            return self.top < other * self.bottom
        return NotImplemented

    def __le__(self, other):
        if isinstance(other, Moment):
            return self.top * other.bottom <= other.top * self.bottom
        if isinstance(other, int):
            return self.top <= other * self.bottom
        return NotImplemented

    def __gt__(self, other):
        if isinstance(other, Moment):
            return self.top * other.bottom > other.top * self.bottom
        if isinstance(other, int):
            return self.top > other * self.bottom
        return NotImplemented

    def __ge__(self, other):
        if isinstance(other, Moment):
            return self.top * other.bottom >= other.top * self.bottom
        if isinstance(other, int):
            return self.top >= other * self.bottom
        return NotImplemented

    def __add__(self, other):
        if isinstance(other, Moment):
            return Moment(self.top * other.bottom + other.top * self.bottom, self.bottom * other.bottom)
        if isinstance(other, int):
            return Moment(self.top + other * self.bottom, self.bottom)
        return NotImplemented

    def __radd__(self, other):
        return as_moment(other) + self

    def __sub__(self, other):
        if isinstance(other, Moment):
            return Moment(self.top * other.bottom - other.top * self.bottom, self.bottom * other.bottom)
        if isinstance(other, int):
            return Moment(self.top - other * self.bottom, self.bottom)
        return NotImplemented

    def __rsub__(self, other):
        return as_moment(other) - self

    def __mul__(self, other):
        if isinstance(other, Moment):
            return Moment(self.top * other.top, self.bottom * other.bottom)
        if isinstance(other, int):
            return Moment(self.top * other, self.bottom)
        return NotImplemented

    def __rmul__(self, other):
        return as_moment(other) * self

    def __floordiv__(self, other):
        if not is_time(other):
            return NotImplemented
        time = as_moment(other)
        return (self.top * time.bottom) // (self.bottom * time.top)

    def __rfloordiv__(self, other):
        return as_moment(other) // self

    def __mod__(self, other):
        if not is_time(other):
            return NotImplemented
        return self - other * (self // other)

    def __rmod__(self, other):
        return as_moment(other) % self

    def __pow__(self, other):
        if not isinstance(other, int):
            return NotImplemented
        top = 1
        bottom = 1
        for _ in range(other):
            top = top * self.top
            bottom = bottom * self.bottom
        return Moment(top, bottom)

    def over(self, other):
        """The exact quotient by a time."""
        time = as_moment(other)
        # Without this test, the fraction with the bottom 0 would be a NoMoment.
        if time.top == 0:
            raise ZeroDivisionError("a moment over zero")
        return Moment(self.top * time.bottom, self.bottom * time.top)


def is_time(value):
    """Whether a value may stand where a time is passed."""
    return isinstance(value, (int, Moment))


def as_moment(time):
    """The moment of a time, which is an integer or a moment."""
    if isinstance(time, Moment):
        return time
    return Moment(time)


def _is_number(text):
    """Whether a text is digits alone, and no more of them than can be read."""
    return len(text) <= MOST_DIGITS and text.isascii() and text.isdigit()


def _decimal(number):
    """An integer in decimal digits."""
    # Python itself writes no more than some thousand digits at once.
    rest = abs(number)
    blocks = []
    while rest >= BLOCK:
        blocks.append(str(rest % BLOCK).zfill(BLOCK_DIGITS))
        rest = rest // BLOCK
    blocks.append(str(rest))
    digits = "".join(blocks[::-1])
    return f"-{digits}" if number < 0 else digits
