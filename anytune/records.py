"""Records: what was heard or played so far."""

from anytune.rows import rejoined
from anytune.times import first_from, grouped, later


class Record:
    """Rows in the order of their starts, found by when they are shown.

    Beside each row stand its start and the greatest stop up to it, in which a search can halve its way.
    """

    def __init__(self):
        self.rows = []
        self.starts = []
        self.reaches = []

    def take(self, rows):
        """Adds rows, none of which starts earlier than the rows before."""
        for group in grouped(rows):
            for row in group:
                self.rows.append(row)
                self.starts.append(row[0])
                self.reaches.append(later(row[1], self.reaches[-1]) if self.reaches else row[1])

    def rejoin(self, place):
        """Joins the rows from a place on where the same mark goes on."""
        rows = rejoined(self.rows[place:])
        self.rows = self.rows[:place]
        self.starts = self.starts[:place]
        self.reaches = self.reaches[:place]
        self.take(rows)

    def heard_in(self, parts):
        """The rows that are shown in the parts, which are ascending and do not touch."""
        out = []
        done = 0
        for low, high in parts:
            place = later(done, first_from(self.reaches, low))
            done = later(done, first_from(self.starts, high))
            out.extend([row for row in self.rows[place:done] if row[1] > low])
        return out
