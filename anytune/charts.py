"""Charts: finite tables that say what pieces show in all of time."""

from anytune.errors import NoChart, NoText
from anytune.loops import merged, settled, unrolled
from anytune.moments import Moment
from anytune.names import is_name
from anytune.pieces import Piece
from anytune.tables import arranged, needed

MOST_ROUNDS = 99
ROUTES_OF_TABLES = {1: 0, 2: 1, 4: 2, 8: 3, 16: 4, 32: 5, 64: 6}


class Route:
    """One way in which the marks of a cell are found in a filling."""

    def __init__(self, hole, up, slope, source, speed):
        self.hole = hole
        self.up = up
        self.slope = slope
        self.source = source
        self.speed = speed


class Cell:
    """A stretch of the rounds of a chart, with its routes and their table."""

    def __init__(self, begin, end, routes, table):
        self.begin = begin
        self.end = end
        self.routes = routes
        self.table = table


class Chart:
    """What a piece shows for all fillings."""

    def __init__(self, rounds, cells):
        self.rounds = rounds
        self.cells = cells

    def __eq__(self, other):
        # The text has all parts of a chart, and no two charts have the same text.
        return isinstance(other, Chart) and str(self) == str(other)

    def __str__(self):
        lines = [f"rounds {self.rounds}"]
        for cell in self.cells:
            lines.append(f"cell {cell.begin} {cell.end} {cell.table}")
            for route in cell.routes:
                lines.append(f"route {route.hole} {Moment(route.up)} {route.slope} {route.source} {route.speed}")
        return "\n".join(lines)

    def piece(self):
        """A piece that the chart describes."""
        cells = []
        names = {}
        for cell in self.cells:
            routes = [(route.hole, route.up, route.slope, route.source, route.speed) for route in cell.routes]
            cells.append((cell.begin, cell.end, routes, cell.table))
            for route in cell.routes:
                names[route.hole] = True
        return Piece(_loop_of(self.rounds, cells), sorted([str(name) for name in names]), False)

    @staticmethod
    def read(text):
        """The chart of the piece that a text describes."""
        lines = text.split("\n")
        rounds = _read_rounds(lines)
        return _chart_of(_loop_of(rounds, _read_cells(lines, rounds)))


def chart(piece):
    """The one chart that describes the piece."""
    return _chart_of(piece.loop)


def _chart_of(loop):
    """The chart of a loop."""
    rounds = loop.span.top
    cells = []
    for begin, end, routes, table in merged(unrolled(loop, Moment(rounds))):
        sources = [(hole, up, slope, lag + speed * begin, speed) for hole, up, slope, speed, lag in routes]
        rows, shown = arranged(sources, table)
        cells.append(Cell(begin, end, [Route(*row) for row in rows], shown))
    return Chart(rounds, cells)


def _loop_of(rounds, cells):
    """The loop of cells (begin, end, routes, table) with routes (hole, up, slope, source, speed)."""
    rows = []
    for begin, end, sources, table in cells:
        routes = [(hole, up, slope, speed, source - speed * begin) for hole, up, slope, source, speed in sources]
        ordered, shown = arranged(routes, table)
        kept, least = needed(ordered, shown)
        rows.append((begin, end, kept, least))
    return settled(Moment(rounds), rows)


def _read_rounds(lines):
    """The number of rounds in the first line."""
    words = _words(lines, 0, "rounds", 2)
    rounds = _integer(words[1], 0)
    if not 1 <= rounds <= MOST_ROUNDS:
        raise NoChart(1)
    return rounds


def _read_cells(lines, rounds):
    """The cells behind the first line, up to the last line."""
    cells = []
    place = 1
    begin = Moment(0)
    while begin < rounds:
        end, table = _read_cell(lines, place, begin, rounds)
        many = ROUTES_OF_TABLES[len(table)]
        routes = []
        for at in range(place + 1, place + 1 + many):
            route = _read_route(lines, at)
            if route in routes:
                raise NoChart(at + 1)
            routes.append(route)
        cells.append((begin, end, routes, table))
        place = place + 1 + many
        begin = end
    if place < len(lines):
        raise NoChart(place + 1)
    return cells


def _read_cell(lines, place, begin, rounds):
    """The end and the table of the cell in the line at the place, which has to start at the begin."""
    words = _words(lines, place, "cell", 4)
    end = _time(words[2], place)
    table = words[3]
    if _time(words[1], place) != begin or not begin < end <= rounds:
        raise NoChart(place + 1)
    if len(table) not in ROUTES_OF_TABLES or table[0] != "0" or table.strip("01"):
        raise NoChart(place + 1)
    return end, table


def _read_route(lines, place):
    """The route in the line at the place."""
    words = _words(lines, place, "route", 6)
    up = _integer(words[2], place)
    slope, source, speed = [_time(word, place) for word in words[3:]]
    if not is_name(words[1]) or slope == 0 or speed <= 0:
        raise NoChart(place + 1)
    return words[1], up, slope, source, speed


def _words(lines, place, head, many):
    """The words of the line at the place: so many, of which the first is the head."""
    if place == len(lines):
        raise NoChart(place + 1)
    words = lines[place].split(" ")
    if len(words) != many or words[0] != head:
        raise NoChart(place + 1)
    return words


def _time(word, place):
    """The moment that a word of the line at the place is."""
    try:
        return Moment.read(word)
    except NoText:
        raise NoChart(place + 1) from None


def _integer(word, place):
    """The integer that a word of the line at the place is."""
    time = _time(word, place)
    if time.bottom != 1:
        raise NoChart(place + 1)
    return time.top
