"""anytune/pace.py: points 25 and 26."""

import unittest
from fractions import Fraction

from anytune.charts import Chart, chart
from anytune.errors import NoPace
from anytune.marks import Mark
from anytune.moments import Moment
from anytune.moves import undo
from anytune.pace import Surprise, ahead, heard, lead, needed, surprise
from anytune.pieces import Piece, turns
from model import (
    between,
    build,
    chart_shows,
    cut,
    dice,
    fraction,
    leads_to,
    mark_values,
    moment,
    random_chart,
    random_time,
    random_tree,
    take_pattern,
)

HALF = Moment(1, 2)
LONG = 10**59
X = Piece.named("x")
Y = Piece.named("y")
SILENCE = Piece.silence()


def texts(parts):
    return [f"{start} {stop}" for start, stop in parts]


def read(*rows):
    """The piece of a chart."""
    return Chart.read("\n".join(rows)).piece()


def random_piece(die):
    """A piece that keeps pace, of one kind or another."""
    while True:
        piece = build(random_tree(die, die.randrange(6))) if die.random() < 0.6 else random_chart(die, routes=5)
        if all(route.speed == 1 for cell in chart(piece).cells for route in cell.routes):
            return piece


class PaceCase(unittest.TestCase):
    def assert_no_pace(self, hole, speed, call, *args, **more):
        with self.assertRaises(NoPace) as caught:
            call(*args, **more)
        self.assertEqual((caught.exception.hole, caught.exception.speed), (hole, speed))
        self.assertIs(type(caught.exception.speed), Moment)

    def assert_parts(self, found, *expected):
        self.assertIs(type(found), list)
        for part in found:
            self.assertEqual((type(part), len(part)), (tuple, 2))
            self.assertEqual([type(time) for time in part], [Moment, Moment])
        self.assertEqual(texts(found), list(expected))


class AheadAndLead(PaceCase):
    def test_the_examples_of_the_document(self):
        x = Piece.named("x")
        self.assertEqual(
            [str(lead(-x)), str(lead(x >> 2)), str(ahead(x >> 2, "x")), str(lead(turns(x, x) * 2))],
            ["1", "0", "-2", "1/2"],
        )

    def test_how_far_ahead(self):
        for piece, expected in (
            (X, 0),
            (X + 5, 0),
            (X << Moment(7, 3), Moment(7, 3)),
            (X >> Moment(7, 3), Moment(-7, 3)),
            (X.nth(-LONG, 1), -LONG),
            (X.nth(LONG, 1), LONG),
            (-X, 1),
            (-X >> 1, 0),
            (-X >> 2, -1),
            (-(X >> 3), -2),
            ((-X).only(HALF, 1), 0),
            ((-X).only(Moment(1, 4), HALF), HALF),
            (X.only(0, HALF) << Moment(1, 3), Moment(1, 3)),
            (X | (X << 2) | (X >> 5), 2),
            (X.every(2, X << 3), 3),
            (turns(X, X) * 2, HALF),
            # Slopes of 2 lead furthest ahead at the end of a cell, slopes of 1/2 at its begin.
            (read("rounds 1", "cell 0 1 01", "route x 0 2 -3 1"), -2),
            (read("rounds 1", "cell 0 1/2 01", "route x 0 2 -3 1", "cell 1/2 1 0"), Moment(-5, 2)),
            (read("rounds 1", "cell 0 1 01", "route x 0 1/2 -3 1"), -3),
            (read("rounds 1", "cell 0 1/2 0", "cell 1/2 1 01", "route x 0 1/2 -3 1"), Moment(-7, 2)),
            (read("rounds 3", "cell 0 3 01", "route x 0 -2 4 1"), 4),
        ):
            found = ahead(piece, "x")
            self.assertIs(type(found), Moment)
            self.assertEqual(found, expected)
            self.assertIs(type(lead(piece)), Moment)
            self.assertEqual(lead(piece), found if found > 0 else 0)

    def test_holes_without_a_route(self):
        for hole in ("y", "z", "", "No name", "self", "x "):
            self.assertIsNone(ahead(X, hole))
        for piece in (SILENCE, X - X, X & SILENCE, Y.every(1, SILENCE), chart(X - X).piece()):
            self.assertIsNone(ahead(piece, "x"))
            self.assertIsNone(ahead(piece, "y"))
            self.assertEqual(lead(piece), 0)
            self.assertIs(type(lead(piece)), Moment)
        # A hole may occur and yet not matter.
        self.assertIsNone(ahead((X & (Y << 9)) | X, "y"))
        self.assertEqual(lead((X & (Y << 9)) | X), 0)

    def test_each_hole_for_itself(self):
        piece = (X << 2) | (Y >> 3)
        self.assertEqual((ahead(piece, "x"), ahead(piece, "y"), lead(piece)), (2, -3, 2))
        piece = (X >> 2) | (Y >> 3)
        self.assertEqual((ahead(piece, "x"), ahead(piece, "y"), lead(piece)), (-2, -3, 0))

    def test_other_speeds(self):
        for piece, hole, speed in (
            (X * 2, "x", 2),
            (X // 3, "x", Moment(1, 3)),
            (X.nth(5, 2), "x", 2),
            (turns(X, X), "x", HALF),
            (Y | X * 2, "x", 2),
            (-X * 2, "x", 2),
        ):
            self.assert_no_pace(hole, speed, ahead, piece, hole)
            self.assert_no_pace(hole, speed, lead, piece)
        # Another pace may still be the speed 1.
        for piece in (X * 2 // 2, turns(X, Y) * 2, turns(X.nth(0, 2), Y.nth(1, 2)), X.nth(7, 1), -X):
            self.assertGreaterEqual(lead(piece), 0)

    def test_only_the_hole_that_is_asked_for(self):
        piece = X | Y * 2
        self.assertEqual(ahead(piece, "x"), 0)
        self.assertIsNone(ahead(piece, "z"))
        self.assert_no_pace("y", 2, ahead, piece, "y")
        self.assert_no_pace("y", 2, lead, piece)

    def test_the_first_route(self):
        # In the order of the cells first, and then of the routes, which is that of their sources here.
        later_cell = (X * 2).every(2, Y * 3)
        self.assert_no_pace("y", 3, lead, later_cell)
        self.assert_no_pace("x", 2, ahead, later_cell, "x")
        piece = read("rounds 1", "cell 0 1 0110", "route y 0 1 0 2", "route x 0 1 0 3")
        self.assert_no_pace("x", 3, lead, piece)
        self.assert_no_pace("y", 2, ahead, piece, "y")
        for routes, speed in (
            (["route x 0 1 5 2", "route x 0 1 4 3"], 3),
            (["route x 0 1 5 3", "route x 0 1 5 2"], 2),
            (["route x 0 2 -9 2", "route x 0 1 9 3"], 3),
            (["route x 0 -2 9 2", "route x 0 1 0 3"], 2),
            (["route x 1 1 0 2", "route x -1 1 0 3"], 3),
            (["route x 0 1 1 1", "route x 0 1 7 3"], 3),
        ):
            self.assert_no_pace("x", speed, lead, read("rounds 1", "cell 0 1 0110", *routes))
        # By the source in the cell, though the route with the speed 3 started lower at the moment 0.
        piece = read(
            "rounds 9", "cell 0 8 0", "cell 8 9 0110", "route x 0 1 20 2", "route x 0 1 21 3"
        )
        self.assert_no_pace("x", 2, lead, piece)

    def test_random_pieces(self):
        for seed in range(150):
            die = dice(seed)
            piece = build(random_tree(die, die.randrange(7))) if seed % 2 else random_chart(die, ("1", "1", "1", "2"))
            told = chart(piece)
            routes = [(cell, route) for cell in told.cells for route in cell.routes]
            for hole in "xyz":
                self.check_ahead(piece, hole, [pair for pair in routes if pair[1].hole == hole])
            wrong = [route for _, route in routes if route.speed != 1]
            if wrong:
                self.assert_no_pace(wrong[0].hole, wrong[0].speed, lead, piece)
            else:
                found = [fraction(ahead(piece, hole)) for hole in "xy" if ahead(piece, hole) is not None]
                self.assertEqual(fraction(lead(piece)), max([0, *found]))

    def check_ahead(self, piece, hole, routes):
        wrong = [route for _, route in routes if route.speed != 1]
        if wrong:
            self.assert_no_pace(hole, wrong[0].speed, ahead, piece, hole)
            self.assert_no_pace(hole, wrong[0].speed, heard, piece, hole, 0, 1)
            return
        gaps = []
        for cell, route in routes:
            at_begin = fraction(route.source) - fraction(cell.begin)
            gaps.append(at_begin)
            gaps.append(at_begin + (fraction(route.slope) - 1) * (fraction(cell.end) - fraction(cell.begin)))
        found = ahead(piece, hole)
        self.assertEqual(found if found is None else fraction(found), max(gaps, default=None))


class Heard(PaceCase):
    def test_whole_stretches(self):
        for piece in (X, X >> 7, X << Moment(1, 3), -X, X.nth(-LONG, 1), X.only(0, HALF) | (X << HALF).only(0, HALF)):
            self.assert_parts(heard(piece, "x", -3, Moment(7, 2)), "-3 7/2")
            self.assert_parts(heard(piece, "x", LONG, LONG + 120), f"{LONG} {LONG + 120}")

    def test_windows(self):
        piece = X.only(0, HALF)
        self.assert_parts(heard(piece, "x", 0, 2), "0 1/2", "1 3/2")
        self.assert_parts(heard(piece, "x", Moment(1, 4), Moment(5, 4)), "1/4 1/2", "1 5/4")
        self.assert_parts(heard(piece, "x", HALF, 1))
        self.assert_parts(heard(piece, "x", -2, -1), "-2 -3/2")
        self.assert_parts(heard(piece << HALF, "x", 0, 2), "0 1/2", "1 3/2")
        self.assert_parts(heard(X.only(0, 1, rounds=3) >> 1, "x", 0, 7), "0 1", "3 4", "6 7")
        self.assert_parts(heard((X << HALF).only(0, HALF), "x", 0, 2), "1/2 1", "3/2 2")
        self.assert_parts(heard(X.only(0, Moment(1, 3)), "x", 0, 2), "0 1/3", "1 4/3")

    def test_parts_are_the_longest(self):
        piece = X.only(0, HALF, rounds=2) | (X.only(0, HALF, rounds=2) + 1 << 2) | (X >> HALF).only(1, 2, rounds=2)
        self.assert_parts(heard(piece, "x", 0, 4), "0 3/2", "2 7/2")
        # A table that changes at 1/2, and routes that lead to the same moments.
        self.assert_parts(heard((X & Y).only(0, HALF) | (X - Y).only(HALF, 1), "x", 0, 3), "0 3")
        self.assert_parts(heard(X | (-X), "x", 0, 3), "0 3")

    def test_mirrored_rounds(self):
        self.assert_parts(heard((-X).only(0, HALF), "x", 0, 2), "1/2 1", "3/2 2")
        self.assert_parts(heard((-X).only(Moment(1, 4), HALF), "x", 0, 1), "1/2 3/4")
        self.assert_parts(heard(-(X.only(0, HALF)), "x", 0, 1), "0 1/2")
        self.assert_parts(heard((-X).only(0, 1, rounds=2) >> 5, "x", -4, 4), "-4 -3", "-2 -1", "0 1", "2 3")

    def test_other_slopes(self):
        piece = read("rounds 4", "cell 0 1 01", "route x 0 3 2 1", "cell 1 4 0")
        self.assert_parts(heard(piece, "x", 0, 8), "0 1", "2 5", "6 8")
        piece = read("rounds 4", "cell 0 1 01", "route x 0 -3 2 1", "cell 1 4 0")
        self.assert_parts(heard(piece, "x", 0, 8), "0 2", "3 6", "7 8")
        # Longer than the rounds after which it comes again.
        piece = read("rounds 1", "cell 0 1/2 01", "route x 0 3 1/3 1", "cell 1/2 1 0")
        self.assert_parts(heard(piece, "x", 0, 8), "0 8")
        piece = read("rounds 1", "cell 0 1/2 01", "route x 0 1/3 1/3 1", "cell 1/2 1 0")
        self.assert_parts(heard(piece, "x", 0, 2), "1/3 1/2", "4/3 3/2")

    def test_empty_stretches_and_holes_without_a_route(self):
        for piece in (X, -X, X.only(0, HALF), SILENCE):
            for begin, end in ((0, 0), (HALF, HALF), (1, 0), (5, -5), (Moment(3, 4), HALF), (HALF, Moment(2, 4))):
                self.assert_parts(heard(piece, "x", begin, end))
        for hole in ("y", "", "No name"):
            self.assert_parts(heard(X, hole, -60, 60))
            self.assert_parts(heard(X, hole, -LONG, LONG))
        self.assert_parts(heard(X - X, "x", -60, 60))

    def test_other_speeds(self):
        piece = X | Y * 2
        self.assert_parts(heard(piece, "x", 0, 2), "0 2")
        self.assert_no_pace("y", 2, heard, piece, "y", 0, 2)
        self.assert_no_pace("y", 2, heard, piece, "y", 0, 0)
        self.assert_no_pace("y", 2, heard, piece, "y", 2, 0)
        self.assert_parts(heard(piece, "z", 0, 2))

    def test_integers_and_moments(self):
        for piece in (X, -X, X.only(0, HALF), X.only(1, 2, rounds=3) >> 1):
            expected = texts(heard(piece, "x", -2, 5))
            self.assert_parts(heard(piece, "x", Moment(-2), 5), *expected)
            self.assert_parts(heard(piece, "x", -2, Moment(5)), *expected)

    def test_far_away_and_long(self):
        piece = X.only(0, HALF, rounds=2)
        self.assert_parts(heard(piece, "x", 2 * LONG, 2 * LONG + 3), f"{2 * LONG} {2 * LONG + HALF}", f"{2 * LONG + 2} {2 * LONG + Moment(5, 2)}")
        self.assertEqual(len(heard(piece, "x", -60, 60)), 60)
        far = X.only(0, HALF, rounds=2).nth(-2 * LONG, 1)
        self.assertEqual(texts(heard(far, "x", 0, 3)), ["0 1/2", "2 5/2"])

    def test_results_are_new(self):
        heard(X, "x", 0, 3).clear()
        self.assert_parts(heard(X, "x", 0, 3), "0 3")

    def test_random_pieces(self):
        for seed in range(120):
            die = dice(seed)
            piece = random_piece(die)
            told = chart(piece)
            for hole in "xy":
                low = random_time(die, -9, 9)
                high = low + random_time(die, 0, 6)
                parts = [(fraction(start), fraction(stop)) for start, stop in heard(piece, hole, moment(low), moment(high))]
                self.assertTrue(all(low <= start < stop <= high for start, stop in parts))
                self.assertTrue(all(one[1] < two[0] for one, two in zip(parts, parts[1:])), seed)
                for _ in range(12):
                    u = between(die, low, high)
                    self.assertIs(any(start <= u < stop for start, stop in parts), leads_to(told, hole, u), seed)


class Needed(PaceCase):
    def test_a_hole(self):
        self.assert_parts(needed(X, "x", 5))
        self.assert_parts(needed(X, "x", 5, delay=0))
        self.assert_parts(needed(X, "x", 5, delay=2), "3 5")
        self.assert_parts(needed(X, "x", HALF, delay=Moment(1, 3)), "1/6 1/2")
        self.assert_parts(needed(X >> 2, "x", 5), "3 5")
        self.assert_parts(needed(X >> 2, "x", 5, delay=3), "0 5")
        self.assert_parts(needed(X << 2, "x", 5))
        self.assert_parts(needed(X << 2, "x", 5, delay=2))
        self.assert_parts(needed(X << 2, "x", 5, delay=3), "4 5")
        # Less than the lead: the moments that are asked for lie at 6 and later.
        self.assert_parts(needed(X << 2, "x", 5, delay=1))
        self.assert_parts(needed(X, "x", -5, delay=120), "-125 -5")

    def test_mirrored_rounds(self):
        self.assert_parts(needed(-X, "x", 0), "-1 0")
        self.assert_parts(needed(-X, "x", 5), "4 5")
        # The moments from 9/2 to 5 ask for those from 4 to 9/2.
        self.assert_parts(needed(-X, "x", Moment(11, 2)), "4 9/2", "5 11/2")
        self.assert_parts(needed(-X, "x", Moment(21, 4)), "4 19/4", "5 21/4")
        self.assert_parts(needed(-X, "x", 5, delay=0))
        self.assert_parts(needed(-X, "x", Moment(9, 2), delay=0), "4 9/2")
        self.assert_parts(needed(-X, "x", Moment(17, 4), delay=0), "4 17/4")
        self.assert_parts(needed(-X, "x", Moment(19, 4), delay=0), "4 17/4")
        self.assert_parts(needed(-X, "x", 5, delay=2), "3 5")
        self.assert_parts(needed(-X >> 1, "x", 5), "4 5")

    def test_windows(self):
        piece = X.only(0, HALF)
        self.assert_parts(needed(piece, "x", 3, delay=2), "1 3/2", "2 5/2")
        self.assert_parts(needed(piece, "x", Moment(13, 4), delay=2), "5/4 3/2", "2 5/2", "3 13/4")
        self.assert_parts(needed(piece >> 1, "x", 3, delay=1), "1 3/2", "2 5/2")
        self.assert_parts(needed(X.only(0, 1, rounds=3) >> 1, "x", 9, delay=0))
        self.assert_parts(needed(X.only(0, 1, rounds=3) >> 1, "x", 10, delay=0), "9 10")
        self.assert_parts(needed(X.only(1, 2, rounds=3), "x", 10, delay=4), "7 8")
        self.assert_parts(needed(X.only(1, 2, rounds=3), "x", 10, delay=Moment(5, 2)), "15/2 8")

    def test_more_than_one_route(self):
        self.assert_parts(needed(X | (X >> 3), "x", 5), "2 5")
        self.assert_parts(needed(X | (X << 2), "x", 5), "3 5")
        self.assert_parts(needed((X << 2) | Y, "y", 5), "3 5")
        self.assert_parts(needed((X << 2) | Y, "x", 5))
        piece = X.only(0, HALF) | (X >> Moment(5, 2)).only(0, HALF)
        self.assert_parts(needed(piece, "x", 5), "5/2 3", "7/2 4", "9/2 5")
        self.assert_parts(needed(piece, "x", 5, delay=1), "3/2 2", "5/2 3", "7/2 5")

    def test_routes_that_begin_at_different_times(self):
        # One asks for the first halves of the last 3 rounds, the other one for the second halves of the last one.
        piece = (X.only(0, HALF) >> 3) | X.only(HALF, 1)
        self.assert_parts(needed(piece, "x", 6, delay=0), "3 7/2", "4 9/2", "5 11/2")
        self.assert_parts(needed(piece, "x", 6, delay=1), "2 5/2", "3 7/2", "4 9/2", "5 6")
        self.assert_parts(needed(piece, "x", 6, delay=2), "1 3/2", "2 5/2", "3 7/2", "4 6")

    def test_long_ways_back(self):
        self.assert_parts(needed(X.nth(-LONG, 1), "x", 5), f"{5 - LONG} 5")
        self.assert_parts(needed(-X.nth(-LONG, 1), "x", 5), f"{5 - LONG} 5")
        # From one long way back on, and more of the same from a shorter one on.
        piece = -X.nth(-2 * LONG, 1) | -X.nth(-LONG, 1).only(0, HALF)
        self.assert_parts(needed(piece, "x", 5), f"{5 - 2 * LONG} 5")
        self.assert_parts(needed(X.nth(LONG, 1), "x", 5))
        self.assert_parts(needed(X.nth(LONG, 1).only(0, HALF), "x", 5, delay=7))

    def test_holes_without_a_route(self):
        for hole in ("y", "", "No name"):
            self.assert_parts(needed(X, hole, 5, delay=9))
        self.assert_parts(needed(X - X, "x", 5, delay=9))
        self.assert_parts(needed(SILENCE, "x", 5))

    def test_other_speeds(self):
        piece = X | Y * 2 | Piece.named("z") // 2
        for hole in ("x", "y", "z", "w"):
            self.assert_no_pace("y", 2, needed, piece, hole, 5)
            self.assert_no_pace("y", 2, needed, piece, hole, 5, delay=0)

    def test_delay_is_passed_by_name(self):
        self.assertRaises(TypeError, needed, X, "x", 5, 2)
        self.assert_parts(needed(X << 1 | X, "x", 5, delay=None), "4 5")

    def test_integers_and_moments(self):
        for piece in (X, -X, X.only(0, HALF) >> 1):
            expected = texts(needed(piece, "x", 5, delay=3))
            self.assert_parts(needed(piece, "x", Moment(5), delay=3), *expected)
            self.assert_parts(needed(piece, "x", 5, delay=Moment(3)), *expected)

    def test_results_are_new(self):
        needed(X, "x", 3, delay=2).clear()
        self.assert_parts(needed(X, "x", 3, delay=2), "1 3")

    def test_random_pieces(self):
        for seed in range(120):
            die = dice(seed)
            piece = random_piece(die)
            told = chart(piece)
            least = lead(piece)
            for hole in "xy":
                now = random_time(die, -9, 9) if die.random() < 0.5 else Fraction(die.randrange(-18, 18), 2)
                delay = die.choice([None, 0, 1, Moment(7, 3), 20, least, least + 1])
                found = needed(piece, hole, moment(now), delay=delay)
                parts = [(fraction(start), fraction(stop)) for start, stop in found]
                self.assertTrue(all(start < stop <= now for start, stop in parts))
                self.assertTrue(all(one[1] < two[0] for one, two in zip(parts, parts[1:])), seed)
                since = now - fraction(least if delay is None else delay)
                for _ in range(12):
                    u = between(die, now - die.choice([2, 12, 30]), now)
                    inside = any(start <= u < stop for start, stop in parts)
                    self.assertIs(inside, leads_to(told, hole, u, since), (seed, hole))


class Surprises(PaceCase):
    def check_surprise(self, piece, delay):
        """What a Surprise has to be."""
        found = surprise(piece, delay)
        self.assertIs(type(found), Surprise)
        self.assertEqual([type(found.begin), type(found.end), type(found.mark)], [Moment, Moment, Mark])
        self.assertIs(type(found.left), bool)
        low, high = fraction(found.begin), fraction(found.end)
        self.assertTrue(0 <= low < high)
        for takes in (found.first, found.second):
            self.assertEqual(sorted(takes), piece.holes)
            for marks in takes.values():
                self.assertIs(type(marks), list)
                self.assertTrue(all(mark.start >= 0 for mark in marks))
        for name in piece.holes:
            self.check_same_before(found.first[name], found.second[name], high + fraction(delay))
        told = chart(piece)
        for takes, shown in ((found.first, found.left), (found.second, not found.left)):
            reading = [mark for mark in piece.over(takes, found.begin, found.end) if self.same_mark(mark, found.mark)]
            self.assertEqual([(mark.start, mark.stop) for mark in reading], [(found.begin, found.end)] if shown else [])
            patterns = {name: take_pattern(takes[name]) for name in takes}
            for share in (Fraction(1, 1009), Fraction(500, 1009), Fraction(1008, 1009)):
                marks = chart_shows(told, patterns, low + (high - low) * share)
                self.assertIs(mark_values(found.mark)[:3] in marks, shown)
        return found

    def same_mark(self, one, two):
        return mark_values(one)[:3] == mark_values(two)[:3]

    def check_same_before(self, first, second, edge):
        """Both show the same before the edge."""
        edges = {edge}
        for mark in [*first, *second]:
            edges.update([time for time in mark_values(mark)[3:] if time < edge])
        edges = sorted(edges)
        for low, high in zip([edges[0] - 1, *edges], edges):
            t = low + (high - low) * Fraction(500, 1009)
            self.assertEqual(take_pattern(first)(t), take_pattern(second)(t))

    def test_a_delay_that_is_enough(self):
        for piece in (X, X >> 2, X << 2, -X, SILENCE, X - X, turns(X, X) * 2, X.only(0, HALF) | (Y << 1)):
            for more in (0, Moment(1, 10**50), 1, 120, LONG):
                self.assertIsNone(surprise(piece, lead(piece) + more))
        self.assertIsNone(surprise(X, 0))
        self.assertIsNone(surprise(X << 2, 2))
        self.assertIsNone(surprise(X << 2, Moment(2)))

    def test_a_delay_that_is_not(self):
        for piece in (
            X << 2,
            -X,
            turns(X, X) * 2,
            -X << Moment(1, 3),
            (X << 2) - Y,
            Y - (X << 2),
            (X << 2) & Y & (Y >> 3),
            (X << 1) ^ (X << 2),
            (X << 1) ^ (-X << 1) ^ X ^ (-X),
            X.only(0, Moment(1, 60)) << 1,
            X.every(7, (X + 3) << HALF, first=5),
            X.nth(LONG, 1),
            X.nth(LONG, 1) & X.nth(-LONG, 1),
            (X + LONG) << 1,
            (X << 1) | (X - X) | (Y & SILENCE),
            read("rounds 2", "cell 0 1 01", "route x 0 -60 9 1", "cell 1 2 0"),
            read("rounds 2", "cell 0 1 01", "route x 0 60 -9 1", "cell 1 2 0"),
            read("rounds 2", "cell 0 1 01", "route x 0 1/60 9 1", "cell 1 2 0"),
            chart(-X).piece(),
            undo(-X >> 1),
            undo(X >> 3),
        ):
            least = lead(piece)
            for delay in (0, Moment(0), least.over(2), least - least.over(10**6), least - Moment(1, 10**9)):
                self.check_surprise(piece, delay)

    def test_just_below_the_lead(self):
        for piece in (X << 2, -X, -X & (Y << Moment(1, 3)), read("rounds 1", "cell 0 1 01", "route x 0 2 -1/2 1")):
            self.check_surprise(piece, lead(piece) - Moment(1, 10**60))

    def test_routes_that_mirror_each_other(self):
        # At the middle of a mark two routes with opposite slopes may lead to the same mark.
        for source in ("0", "1/2", "1", "5/4", "3/2", "7/4", "2", "3"):
            for table in ("0110", "0001", "0111", "0100", "0010"):
                piece = read("rounds 4", f"cell 0 4 {table}", "route x 0 -1 3 1", f"route x 0 1 {source} 1")
                self.check_surprise(piece, 0)
                self.check_surprise(piece, lead(piece).over(2))

    def test_a_mark_that_goes_away(self):
        found = self.check_surprise(X - (X << 2), 1)
        self.assertIs(found.left, True)
        self.assertIs(self.check_surprise(X << 2, 1).left, False)

    def test_holes_that_do_not_matter(self):
        found = self.check_surprise((X << 1) | (Y - Y), 0)
        self.assertEqual(sorted(found.first), ["x", "y"])
        self.assertEqual((found.first["y"], found.second["y"]), ([], []))

    def test_recordings_are_new(self):
        piece = (X << 1) & Y
        found = surprise(piece, 0)
        found.first["y"].clear()
        self.assertEqual(len(found.second["y"]), 1)
        found.second.clear()
        self.check_surprise(piece, 0)

    def test_other_speeds(self):
        for delay in (0, 1, LONG):
            self.assert_no_pace("x", 2, surprise, (Y << 1) | X * 2, delay)

    def test_random_pieces(self):
        many = 0
        for seed in range(150):
            piece = random_piece(dice(seed))
            least = lead(piece)
            for delay in (Moment(0), least.over(2), least - Moment(1, 1000), least):
                if 0 <= delay < least:
                    self.check_surprise(piece, delay)
                    many = many + 1
                elif delay >= 0:
                    self.assertIsNone(surprise(piece, delay))
        self.assertGreater(many, 100)


class PiecesOfCharts(PaceCase):
    def test_pieces_of_charts_and_of_undo(self):
        for piece in (X << HALF, -X, X.only(0, HALF) | (X >> 2), (X & Y) << 1):
            for same in (chart(piece).piece(), Chart.read(str(chart(piece))).piece()):
                self.check_same(piece, same)
        for piece, same in ((X >> HALF, undo(X << HALF)), (-X, undo(-X)), (-X << 1, undo(-X >> 1))):
            self.check_same(piece, same)

    def check_same(self, piece, same):
        self.assertEqual(lead(same), lead(piece))
        self.assertEqual(ahead(same, "x"), ahead(piece, "x"))
        self.assertEqual(heard(same, "x", -2, 3), heard(piece, "x", -2, 3))
        self.assertEqual(needed(same, "x", 3, delay=4), needed(piece, "x", 3, delay=4))
        self.assertIs(surprise(same, 0) is None, surprise(piece, 0) is None)

    def test_pieces_stay(self):
        piece = (X << 1) & -Y
        before = str(chart(piece))
        lead(piece), ahead(piece, "x"), heard(piece, "x", 0, 9), needed(piece, "y", 3), surprise(piece, 0)
        self.assertEqual((str(chart(piece)), piece.holes), (before, ["x", "y"]))


class LargePieces(PaceCase):
    def test_large_charts(self):
        die = dice(5)
        rows = ["rounds 48"]
        for k in range(300):
            begin = Fraction(48 * k, 300)
            rows.append(f"cell {moment(begin)} {moment(begin + Fraction(48, 300))} 0" + "".join(die.choice("01") for _ in range(62)) + "1")
            for number in range(6):
                slope = die.choice(["1", "-1", "2", "1/2", "-60", "1/60"])
                source = moment(begin + Fraction(die.randrange(-720, 120), 12))
                rows.append(f"route {die.choice('xy')} {number} {slope} {source} 1")
        piece = read(*rows)
        told = chart(piece)
        parts = heard(piece, "x", -60, 60)
        for _ in range(20):
            u = random_time(die, -60, 60)
            self.assertIs(any(start <= moment(u) < stop for start, stop in parts), leads_to(told, "x", u))
        for delay in (0, 120):
            parts = needed(piece, "x", 17, delay=delay)
            for _ in range(20):
                u = random_time(die, -200, 17)
                self.assertIs(any(start <= moment(u) < stop for start, stop in parts), leads_to(told, "x", u, 17 - delay))
        self.assertIsNotNone(surprise(piece, lead(piece) - Moment(1, 10**9)))


if __name__ == "__main__":
    unittest.main()
