"""Marks: a tone with a stretch of time, of which a part is shown."""

from anytune.errors import NoMark
from anytune.moments import as_moment


class Mark:
    """A mark and one part [start, stop) of its stretch [begin, end)."""

    def __init__(self, tone, begin, end, *, start=None, stop=None):
        first = begin if start is None else start
        last = end if stop is None else stop
        if not begin <= first < last <= end:
            raise NoMark(tone, begin, end)
        self.tone = tone
        self.begin = as_moment(begin)
        self.end = as_moment(end)
        self.start = as_moment(first)
        self.stop = as_moment(last)

    def __eq__(self, other):
        return (
            isinstance(other, Mark)
            and self.tone == other.tone
            and self.begin == other.begin
            and self.end == other.end
            and self.start == other.start
            and self.stop == other.stop
        )

    def __repr__(self):
        return f"Mark({self.tone}, {self.begin}, {self.end}, start={self.start}, stop={self.stop})"
