"""anytune/charts.py: points 17 to 22."""

import unittest
from fractions import Fraction
from math import floor

from anytune.charts import Cell, Chart, Route, chart
from anytune.errors import NoChart
from anytune.marks import Mark
from anytune.moments import Moment
from anytune.pieces import Piece, turns
from anytune.tunes import Tune
from model import build, chart_shows, dice, fraction, moment, random_time, random_tree, random_tune, shows, tune_pattern

HALF = Moment(1, 2)
LONG = 10**59
MOST = 10**60 - 1
X = Piece.named("x")
Y = Piece.named("y")


def lines(*rows):
    return "\n".join(rows)


class ChartsOfPieces(unittest.TestCase):
    def assert_chart(self, piece, *rows):
        self.assertEqual(str(chart(piece)).split("\n"), list(rows))

    def test_a_hole_and_silence(self):
        self.assert_chart(X, "rounds 1", "cell 0 1 01", "route x 0 1 0 1")
        self.assert_chart(Piece.silence(), "rounds 1", "cell 0 1 0")

    def test_two_pieces(self):
        routes = ["route x 0 1 0 1", "route y 0 1 0 1"]
        self.assert_chart(X | Y, "rounds 1", "cell 0 1 0111", *routes)
        self.assert_chart(Y & X, "rounds 1", "cell 0 1 0001", *routes)
        self.assert_chart(X - Y, "rounds 1", "cell 0 1 0100", *routes)
        self.assert_chart(Y - X, "rounds 1", "cell 0 1 0010", *routes)
        self.assert_chart(Y ^ X, "rounds 1", "cell 0 1 0110", *routes)
        self.assert_chart(X ^ X, "rounds 1", "cell 0 1 0")
        self.assert_chart((X & Y) | X, "rounds 1", "cell 0 1 01", "route x 0 1 0 1")

    def test_leads(self):
        self.assert_chart(X + 3, "rounds 1", "cell 0 1 01", "route x 3 1 0 1")
        self.assert_chart(-LONG + X, "rounds 1", "cell 0 1 01", f"route x -{LONG} 1 0 1")
        self.assert_chart(X << HALF, "rounds 1", "cell 0 1 01", "route x 0 1 1/2 1")
        self.assert_chart(X >> HALF, "rounds 1", "cell 0 1 01", "route x 0 1 -1/2 1")
        self.assert_chart(X << 1, "rounds 1", "cell 0 1 01", "route x 0 1 1 1")
        self.assert_chart(X * 2, "rounds 1", "cell 0 1 01", "route x 0 2 0 2")
        self.assert_chart(X // 2, "rounds 1", "cell 0 1 01", "route x 0 1/2 0 1/2")
        self.assert_chart(-X, "rounds 1", "cell 0 1 01", "route x 0 -1 1 1")
        halves = ["cell 0 1/2 01", "route x 0 -1 1/2 1", "cell 1/2 1 01", "route x 0 -1 2 1"]
        self.assert_chart(-X << HALF, "rounds 1", *halves)
        self.assert_chart(-X >> 1, "rounds 1", "cell 0 1 01", "route x 0 -1 0 1")

    def test_choices(self):
        self.assert_chart(
            X.only(Moment(1, 4), Moment(3, 4)),
            "rounds 1",
            "cell 0 1/4 0",
            "cell 1/4 3/4 01",
            "route x 0 1 1/4 1",
            "cell 3/4 1 0",
        )
        self.assert_chart(X.only(0, 1, rounds=2), "rounds 2", "cell 0 1 01", "route x 0 1 0 1", "cell 1 2 0")
        self.assert_chart(X.only(0, 2, rounds=2), "rounds 1", "cell 0 1 01", "route x 0 1 0 1")
        self.assert_chart(X.only(0, LONG, rounds=LONG), "rounds 1", "cell 0 1 01", "route x 0 1 0 1")
        self.assert_chart(X.every(2, Y), "rounds 2", "cell 0 1 01", "route y 0 1 0 1", "cell 1 2 01", "route x 0 1 1 1")
        self.assert_chart(
            X.every(3, Y, first=-1), "rounds 3", "cell 0 2 01", "route x 0 1 0 1", "cell 2 3 01", "route y 0 1 2 1"
        )
        self.assert_chart(X.every(1, Y), "rounds 1", "cell 0 1 01", "route y 0 1 0 1")
        self.assert_chart(X.nth(1, 3), "rounds 1", "cell 0 1 01", "route x 0 1 1 3")
        self.assert_chart(X.nth(-LONG, 7), "rounds 1", "cell 0 1 01", f"route x 0 1 -{LONG} 7")
        self.assert_chart(X.only(0, 1, rounds=2).nth(1, 2), "rounds 1", "cell 0 1 0")
        self.assert_chart(X.only(0, 1, rounds=2).nth(2, 2), "rounds 1", "cell 0 1 01", "route x 0 1 2 2")
        self.assert_chart(turns(X), "rounds 1", "cell 0 1 01", "route x 0 1 0 1")
        self.assert_chart(
            turns(X, X), "rounds 2", "cell 0 1 01", "route x 0 1 0 1/2", "cell 1 2 01", "route x 0 1 0 1/2"
        )

    def test_the_examples_of_the_document(self):
        self.assertEqual(
            str(chart(turns(Piece.named("x"), Piece.named("y")))),
            "rounds 2\ncell 0 1 01\nroute x 0 1 0 1/2\ncell 1 2 01\nroute y 0 1 0 1/2",
        )
        with self.assertRaises(NoChart) as caught:
            Chart.read("rounds 1\ncell 0 1/2 01\nroute x 0 1 0 1")
        self.assertEqual(caught.exception.line, 4)

    def test_the_order_of_routes(self):
        piece = (X << 1) ^ (Y - X) ^ (X * 2) ^ (X + 1) ^ (X + -1) ^ X.nth(0, 2)
        self.assertEqual(
            str(chart(piece)).split("\n")[2:],
            [
                "route x -1 1 0 1",
                "route x 0 1 0 1",
                "route x 0 1 0 2",
                "route x 0 1 1 1",
                "route x 0 2 0 2",
                "route x 1 1 0 1",
                "route y 0 1 0 1",
            ],
        )
        self.assert_chart((Y >> 1) - (Y << 1), "rounds 1", "cell 0 1 0100", "route y 0 1 -1 1", "route y 0 1 1 1")
        self.assert_chart((Y << 1) - (Y >> 1), "rounds 1", "cell 0 1 0010", "route y 0 1 -1 1", "route y 0 1 1 1")

    def test_cells_are_as_long_as_possible(self):
        self.assert_chart(X.only(0, HALF) | X.only(HALF, 1), "rounds 1", "cell 0 1 01", "route x 0 1 0 1")
        self.assert_chart(X.every(5, X), "rounds 1", "cell 0 1 01", "route x 0 1 0 1")
        # Cells are not joined over the end of the rounds.
        self.assert_chart(
            X.only(Moment(1, 4), HALF) ^ X,
            "rounds 1",
            "cell 0 1/4 01",
            "route x 0 1 0 1",
            "cell 1/4 1/2 0",
            "cell 1/2 1 01",
            "route x 0 1 1/2 1",
        )

    def test_rounds_are_as_few_as_possible(self):
        self.assertEqual(chart(turns(X.nth(0, 2), X.nth(1, 2))), chart(X))
        self.assertEqual(chart(turns(-X, -X).nth(0, 2)).rounds, 1)
        self.assertEqual(chart(X.only(0, 1, rounds=2) | X.only(1, 2, rounds=2)), chart(X))
        self.assertEqual(chart(X.every(4, Y).every(4, Y, first=2)), chart(X.every(2, Y)))
        self.assertEqual(chart(X.every(4, Y).every(4, Y, first=1)).rounds, 4)
        self.assertEqual(chart(X.only(0, HALF) * Moment(2, 3)).rounds, 3)
        self.assertEqual(chart(X.only(0, HALF) * Moment(3, 2)).rounds, 2)
        self.assertEqual(chart(X.only(0, HALF) * 3).rounds, 1)
        self.assertEqual(len(chart(X.only(0, HALF) * 3).cells), 6)
        self.assertEqual(chart(X.only(0, HALF) * 60 // 60), chart(X.only(0, HALF)))
        self.assertEqual(chart(turns(X, Y)).rounds, 2)

    def test_rounds_are_as_few_as_possible_with_cells_over_their_ends(self):
        for piece in (
            X.only(Moment(1, 4), HALF),
            X.only(0, HALF) | Y.only(HALF, Moment(3, 4)),
            X.only(Moment(1, 3), 2, rounds=3) << Moment(1, 5),
            (X.only(0, HALF) | Y) >> Moment(1, 3),
            (X.only(0, HALF) * 3) << Moment(1, 12),
        ):
            for step in (2, 3, 4):
                self.assertEqual(chart(piece.every(step, piece)), chart(piece))
        self.assertEqual(
            chart(((X.only(0, HALF) * 3 << Moment(1, 12)) | Y) // 3), chart((X.only(0, HALF) << Moment(1, 4)) | Y // 3)
        )

    def test_attributes(self):
        told = chart(turns(X, -Y << Moment(1, 3)))
        self.assertIs(type(told), Chart)
        self.assertIs(type(told.rounds), int)
        self.assertIs(type(told.cells), list)
        for cell in told.cells:
            self.assertIs(type(cell), Cell)
            self.assertEqual([type(cell.begin), type(cell.end), type(cell.table)], [Moment, Moment, str])
            self.assertIs(type(cell.routes), list)
            for route in cell.routes:
                self.assertIs(type(route), Route)
                self.assertEqual([type(route.hole), type(route.up)], [str, int])
                self.assertEqual([type(route.slope), type(route.source), type(route.speed)], [Moment] * 3)
        route = chart((X + 5).nth(3, 2) // 4).cells[0].routes[0]
        self.assertEqual((route.hole, route.up, route.slope), ("x", 5, Moment(1, 4)))
        self.assertEqual((route.source, route.speed), (3, HALF))

    def test_paces_of_long_numbers(self):
        pace = Moment(LONG + 1, LONG - 1)
        self.assert_chart(
            (X | (Y << pace)) * pace,
            "rounds 1",
            "cell 0 1 0111",
            f"route x 0 {pace} 0 {pace}",
            f"route y 0 {pace} {pace} {pace}",
        )
        self.assertEqual(chart((-X) * pace // pace), chart(-X))
        self.assertEqual(chart(((-X) * pace | Y) // pace), chart(-X | Y // pace))

    def test_pieces_stay(self):
        piece = X | Y
        told = chart(piece)
        told.cells.clear()
        self.assertEqual(len(chart(piece).cells), 1)
        self.assertEqual(piece.holes, ["x", "y"])


class Equality(unittest.TestCase):
    def test_equal_charts(self):
        self.assertIs(chart(-(-X)) == chart(X), True)
        self.assertIs(chart(-(-X)) != chart(X), False)

    def test_one_part_differs(self):
        told = chart(X.only(0, HALF))
        others = [
            X,
            X.only(0, Moment(1, 3)),
            Y.only(0, HALF),
            (X + 1).only(0, HALF),
            (X << 1).only(0, HALF),
            (X * 2).only(0, HALF),
        ]
        others = others + [X.nth(0, 2).only(0, HALF), X.only(0, HALF, rounds=2), X - X.only(0, HALF), Piece.silence()]
        for other in others:
            self.assertIs(told == chart(other), False)
            self.assertIs(told != chart(other), True)
        self.assertIs(chart(X - Y) == chart(Y - X), False)

    def test_a_chart_is_nothing_else(self):
        for thing in (1, None, str(chart(X)), X):
            self.assertIs(chart(X) == thing, False)
            self.assertIs(chart(X) != thing, True)


class RandomCharts(unittest.TestCase):
    def random_piece(self, seed):
        die = dice(seed)
        tree = random_tree(die, die.randrange(9))
        return die, tree, build(tree)

    def test_charts_show_what_pieces_show(self):
        for seed in range(120):
            die, tree, piece = self.random_piece(seed)
            fillings = {name: tune_pattern(*random_tune(die)) for name in "xy"}
            told = chart(piece)
            for _ in range(8):
                t = random_time(die, -30, 30)
                self.assertEqual(chart_shows(told, fillings, t), shows(tree, fillings, t), (seed, tree))

    def test_charts_have_their_properties(self):
        for seed in range(120):
            told = chart(self.random_piece(seed)[2])
            self.assertGreaterEqual(told.rounds, 1)
            self.assertEqual((told.cells[0].begin, told.cells[-1].end), (0, told.rounds))
            for cell in told.cells:
                self.assertLess(cell.begin, cell.end)
                self.check_routes(cell)
            for cell, after in zip(told.cells, told.cells[1:]):
                self.assertEqual(cell.end, after.begin)
                self.assertFalse(self.goes_on(cell, after), seed)
            for rounds in range(1, told.rounds):
                if told.rounds % rounds == 0:
                    self.assertFalse(self.repeats(told, rounds), seed)

    def check_routes(self, cell):
        keys = [(r.hole, r.up, *[fraction(time) for time in (r.slope, r.source, r.speed)]) for r in cell.routes]
        self.assertEqual(keys, sorted(set(keys)))
        self.assertEqual(len(cell.table), 2 ** len(keys))
        self.assertEqual(cell.table[0], "0")
        for j in range(len(keys)):
            self.assertTrue(any(cell.table[i] != cell.table[i ^ 2**j] for i in range(len(cell.table))))

    def goes_on(self, cell, after):
        length = cell.end - cell.begin
        moved = [(r.hole, r.up, r.slope, r.source + r.slope * length, r.speed) for r in cell.routes]
        return cell.table == after.table and moved == [(r.hole, r.up, r.slope, r.source, r.speed) for r in after.routes]

    def repeats(self, told, rounds):
        """Whether fewer rounds would do: whether each moment has the same routes so many rounds later."""
        edges = sorted(
            {(fraction(cell.begin) + k * rounds) % told.rounds for cell in told.cells for k in range(told.rounds)}
        )
        middles = [(low + high) / 2 for low, high in zip(edges, [*edges[1:], Fraction(told.rounds)])]
        return all(self.routes_at(told, t, 0) == self.routes_at(told, t + rounds, rounds) for t in middles)

    def routes_at(self, told, t, back):
        """The routes at t, each with where it would lead t so many rounds before."""
        k = floor(t / told.rounds)
        for cell in told.cells:
            begin = fraction(cell.begin) + k * told.rounds
            if begin <= t < fraction(cell.end) + k * told.rounds:
                found = {}
                for j, r in enumerate(cell.routes):
                    at = fraction(r.source) + fraction(r.speed) * told.rounds * k + fraction(r.slope) * (t - begin)
                    found[r.hole, r.up, fraction(r.slope), at - fraction(r.speed) * back, fraction(r.speed)] = j
                order = [found[key] for key in sorted(found)]
                places = [sum(2 ** order[j] for j in range(len(order)) if i >> j & 1) for i in range(len(cell.table))]
                return sorted(found), "".join(cell.table[place] for place in places)
        raise AssertionError("the cells do not cover the rounds")

    def test_charts_are_read_and_played_again(self):
        for seed in range(120):
            piece = self.random_piece(seed)[2]
            told = chart(piece)
            self.assertEqual(chart(told.piece()), told, seed)
            if max(len(cell.routes) for cell in told.cells) <= 6:
                self.assertEqual(Chart.read(str(told)), told, seed)
                self.assertEqual(str(Chart.read(str(told))), str(told), seed)


class Pieces(unittest.TestCase):
    def test_pieces_of_charts(self):
        piece = chart(turns(X, Y)).piece()
        self.assertIs(type(piece), Piece)
        self.assertEqual(piece.holes, ["x", "y"])
        tune = Tune(1, [Mark(1, 0, 1)])
        self.assertEqual(piece.filled(x=tune, y=Tune.empty()), Tune(2, [Mark(1, 0, 1)]))
        self.assertEqual(chart((piece << 1) + 2), chart((turns(X, Y) << 1) + 2))
        self.assertEqual(chart(X - Y).piece().holes, ["x", "y"])
        self.assertEqual(chart(X - X).piece().holes, [])
        self.assertEqual(chart((X & Y) | X).piece().holes, ["x"])
        self.assertIsNot(piece.holes, piece.holes)

    def test_pieces_of_read_charts(self):
        piece = Chart.read(lines("rounds 1", "cell 0 1 0110", "route b 1 1 0 1", "route a 0 -1/2 3 60")).piece()
        self.assertEqual(piece.holes, ["a", "b"])
        self.assertEqual(
            str(chart(piece)), lines("rounds 1", "cell 0 1 0110", "route a 0 -1/2 3 60", "route b 1 1 0 1")
        )


class Read(unittest.TestCase):
    def assert_read(self, text, *rows):
        told = Chart.read(text)
        self.assertIs(type(told), Chart)
        self.assertEqual(str(told).split("\n"), list(rows))

    def test_texts_of_charts(self):
        for text in (
            lines("rounds 1", "cell 0 1 0"),
            lines("rounds 1", "cell 0 1 01", "route abcdefgh -7 -3/2 -1/2 5/3"),
            lines("rounds 2", "cell 0 1/2 01", "route x 0 1 0 1", "cell 1/2 2 0"),
            lines("rounds 99", "cell 0 98 0", "cell 98 99 01", "route x 0 1 0 1"),
            lines("rounds 1", "cell 0 1 01", f"route x -{MOST} {MOST} -{MOST}/{MOST - 1} {MOST - 1}/{MOST}"),
        ):
            self.assert_read(text, *text.split("\n"))

    def test_rounds_may_be_too_many(self):
        self.assert_read(lines("rounds 99", "cell 0 99 0"), "rounds 1", "cell 0 1 0")
        self.assert_read(
            lines("rounds 4", "cell 0 4 01", "route x 0 1 0 1"), "rounds 1", "cell 0 1 01", "route x 0 1 0 1"
        )
        text = lines("rounds 2", "cell 0 1 01", "route x 0 -1 1 1", "cell 1 2 01", "route x 0 -1 2 1")
        self.assert_read(text, "rounds 1", "cell 0 1 01", "route x 0 -1 1 1")
        # The second cell goes on, but not the next round.
        text = lines("rounds 2", "cell 0 2 01", "route x 0 1 0 2")
        self.assert_read(text, *text.split("\n"))

    def test_cells_may_be_too_short(self):
        text = lines("rounds 1", "cell 0 1/3 01", "route x 0 2 5 1", "cell 1/3 1 01", "route x 0 2 17/3 1")
        self.assert_read(text, "rounds 1", "cell 0 1 01", "route x 0 2 5 1")
        text = lines("rounds 1", "cell 0 1/3 01", "route x 0 2 5 1", "cell 1/3 1 01", "route x 0 2 16/3 1")
        self.assert_read(text, *text.split("\n"))

    def test_routes_may_not_matter(self):
        text = lines("rounds 1", "cell 0 1 0000", "route x 0 1 0 1", "route y 0 1 0 1")
        self.assert_read(text, "rounds 1", "cell 0 1 0")
        text = lines("rounds 1", "cell 0 1 0011", "route x 0 1 0 1", "route y 0 1 0 1")
        self.assert_read(text, "rounds 1", "cell 0 1 01", "route y 0 1 0 1")

    def test_routes_may_be_in_any_order(self):
        text = lines("rounds 1", "cell 0 1 0100", "route y 0 1 0 1", "route x 0 1 0 1")
        self.assert_read(text, "rounds 1", "cell 0 1 0010", "route x 0 1 0 1", "route y 0 1 0 1")
        names = [f"route {name} 0 1 0 1" for name in "fedcba"]
        table = "0" + "1" * 31 + "0" * 32
        self.assert_read(
            lines("rounds 1", f"cell 0 1 {table}", *names), "rounds 1", "cell 0 1 " + "00" + "10" * 31, *names[::-1]
        )

    def test_nearly_texts_of_charts(self):
        head, cell, route = "rounds 1", "cell 0 1 01", "route x 0 1 0 1"
        for line, rows in (
            (1, [""]),
            (1, ["", head, cell, route]),
            (1, [cell, route]),
            (2, [head]),
            (2, [head, ""]),
            (2, [head, "", cell, route]),
            (2, [head, route]),
            (2, [head, head]),
            (3, [head, cell]),
            (3, [head, cell, ""]),
            (3, [head, cell, cell]),
            (4, [head, cell, route, ""]),
            (4, [head, cell, route, route]),
            (4, [head, cell, route, cell]),
            (3, [head, "cell 0 1 0", ""]),
            (3, [head, "cell 0 1 0", route]),
            (3, [head, "cell 0 1/2 0"]),
            (3, [head, "cell 0 1/2 0", "cell 0 1 0"]),
            (3, [head, "cell 0 1/2 0", "cell 1/3 1 0"]),
            (3, [head, "cell 0 1/2 0", "cell 2/3 1 0"]),
            (3, [head, "cell 0 1/2 0", "cell 1/2 1/2 0"]),
            (3, [head, "cell 0 1/2 0", "cell 1/2 1/3 0"]),
            (3, [head, "cell 0 1/2 0", "cell 1/2 3/2 0"]),
            (4, [head, "cell 0 1/2 0", "cell 1/2 1 0", "cell 1 2 0"]),
            (4, [head, "cell 0 1 0001", route]),
            (4, [head, "cell 0 1 0001", route, route]),
            (4, [head, "cell 0 1 0001", route, "route x 0 1 0"]),
            (5, ["rounds 2", cell, route, "cell 1 2 01"]),
            (6, ["rounds 2", cell, route, "cell 1 2 01", route, route]),
        ):
            self.assert_no_chart(lines(*rows), line)

    def assert_no_chart(self, text, line):
        with self.assertRaises(NoChart, msg=text) as caught:
            Chart.read(text)
        self.assertEqual(caught.exception.line, line, text)

    def test_wrong_first_lines(self):
        for head in (
            "rounds 0",
            "rounds 100",
            "rounds -1",
            "rounds 01",
            "rounds +1",
            "rounds 1/1",
            "rounds 3/2",
            "rounds 2/2",
            "rounds",
            "rounds ",
            "rounds  1",
            "rounds 1 ",
            " rounds 1",
            "rounds\t1",
            "round 1",
            "Rounds 1",
            "rounds 1 1",
            "rounds x",
            "rounds 1\r",
            f"rounds {LONG}",
            "cell 0 1 0",
        ):
            self.assert_no_chart(lines(head, "cell 0 1 0"), 1)

    def test_wrong_cells(self):
        for cell in (
            "cell 0 1",
            "cell 0 1 0 ",
            " cell 0 1 0",
            "cell  0 1 0",
            "cell 0 1  0",
            "cell 0 1 ",
            "cell 0 1 1",
            "cell 0 1 10",
            "cell 0 1 001",
            "cell 0 1 00000",
            "cell 0 1 02",
            "cell 0 1 0a",
            "cell 0 1 " + "0" * 128,
            "cell 0 0 0",
            "cell 0 -1 0",
            "cell 0 2 0",
            "cell 0 61/60 0",
            "cell 1/2 1 0",
            "cell -1 1 0",
            "cell -0 1 0",
            "cell 00 1 0",
            "cell 0/1 1 0",
            "cell 0 1/1 0",
            "cell 0 01 0",
            "cell 0 2/4 0",
            "cell 0 1/ 0",
            "cell 0 /2 0",
            "cell 0 0.5 0",
            "cell 0 1/-2 0",
            "cell 0 1/0 0",
            "cell 0 x 0",
            "cells 0 1 0",
            "cell 0 1 0 0",
            "route x 0 1 0 1",
            f"cell 0 1/{10 * MOST} 0",
            "cell 0 1 0\t",
        ):
            self.assert_no_chart(lines("rounds 1", cell, "cell 1/2 1 0"), 2)
        self.assert_no_chart(lines("rounds 1", f"cell 0 1/{MOST} 0"), 3)

    def test_wrong_routes(self):
        for route in (
            "route x 0 1 0",
            "route x 0 1 0 1 ",
            "route x 0 1 0 1 1",
            "route  x 0 1 0 1",
            " route x 0 1 0 1",
            "routes x 0 1 0 1",
            "route X 0 1 0 1",
            "route self 0 1 0 1",
            "route abcdefghi 0 1 0 1",
            "route x1 0 1 0 1",
            "route 0 1 0 1",
            "route x 1/2 1 0 1",
            "route x +1 1 0 1",
            "route x -0 1 0 1",
            "route x 00 1 0 1",
            "route x  1 0 1",
            "route x y 1 0 1",
            "route x 0 0 0 1",
            "route x 0 -0 0 1",
            "route x 0 2/2 0 1",
            "route x 0 1.5 0 1",
            "route x 0 1 -0 1",
            "route x 0 1 x 1",
            "route x 0 1 0/1 1",
            "route x 0 1 0 0",
            "route x 0 1 0 -1",
            "route x 0 1 0 -1/2",
            "route x 0 1 0 4/2",
            "cell 0 1 01",
            f"route x {10**60} 1 0 1",
            f"route x 0 {10**60} 0 1",
            f"route x 0 1 1/{10**60} 1",
            f"route x 0 1 0 {10**60}",
        ):
            self.assert_no_chart(lines("rounds 1", "cell 0 1 01", route), 3)

    def test_any_number_of_routes(self):
        for many in range(7):
            routes = [f"route x {k} 1 0 1" for k in range(many)]
            rows = ["rounds 1", f"cell 0 1 {'0' * (2**many - 1)}{'1' if many else '0'}", *routes]
            self.assert_read(lines(*rows), *rows)
            self.assert_no_chart(lines(*rows[:-1]), many + 2)
            self.assert_no_chart(lines(*rows, "route x 9 1 0 1"), many + 3)

    def test_six_routes_and_no_more(self):
        routes = [f"route x {k} 1 0 1" for k in range(7)]
        table = "0" * 63 + "1"
        text = lines("rounds 1", f"cell 0 1 {table}", *routes[:6])
        self.assert_read(text, *text.split("\n"))
        self.assert_no_chart(lines("rounds 1", f"cell 0 1 {table}", *routes[:5]), 8)
        self.assert_no_chart(lines("rounds 1", f"cell 0 1 {table}", *routes), 9)
        self.assert_no_chart(lines("rounds 1", f"cell 0 1 {table}{table}", *routes), 2)
        self.assert_no_chart(lines("rounds 1", f"cell 0 1 {table}", *routes[:3], routes[1], *routes[3:5]), 6)

    def test_large_charts(self):
        die = dice(7)
        cuts = [Fraction(0), *sorted({Fraction(die.randrange(1, LONG), LONG) * 48 for _ in range(299)}), Fraction(48)]
        rows = ["rounds 48"]
        for begin, end in zip(cuts, cuts[1:]):
            rows.append(f"cell {moment(begin)} {moment(end)} 0" + "".join(die.choice("01") for _ in range(62)) + "1")
            for k in range(6):
                slope = Moment(die.choice([-1, 1]) * die.randrange(1, LONG), die.randrange(1, LONG))
                rows.append(
                    f"route {die.choice('xy')} {die.randrange(-3, 3)} {slope} {Moment(k, die.randrange(1, LONG))} {abs(slope)}"
                )
        told = Chart.read(lines(*rows))
        self.assertEqual((told.rounds, len(told.cells)), (48, 300))
        self.assertEqual(Chart.read(str(told)), told)
        self.assertEqual(chart(told.piece()), told)
        self.assertEqual(chart(-(-told.piece())), told)


if __name__ == "__main__":
    unittest.main()
