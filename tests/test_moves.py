"""anytune/moves.py: point 30, and point 23 where it speaks of `undo`."""

import unittest
from fractions import Fraction

from anytune.charts import Chart, chart
from anytune.comparing import alike, apart, parting, silent, within
from anytune.errors import Lost, NoMove, NotPlain
from anytune.marks import Mark
from anytune.moments import Moment
from anytune.moves import undo
from anytune.pieces import Piece, turns
from anytune.tunes import Tune
from model import between, build, dice, fraction, leads_to, random_chart, random_time, random_tree, random_tune

HALF = Moment(1, 2)
LONG = 10**59
X = Piece.named("x")
Y = Piece.named("y")
SILENCE = Piece.silence()


def read(*rows):
    """The piece of a chart."""
    return Chart.read("\n".join(rows)).piece()


class MovesCase(unittest.TestCase):
    def setUp(self):
        die = dice(1)
        self.tunes = [Tune(*random_tune(die)) for _ in range(6)]
        self.tunes.append(Tune(3, [Mark(k, Moment(k, 7), Moment(k, 7) + k + 1, stop=Moment(k + 1, 7)) for k in range(21)]))

    def check_undone(self, piece, tunes=None):
        back = undo(piece)
        self.assertIs(type(back), Piece)
        hole = [route.hole for cell in chart(piece).cells for route in cell.routes][0]
        self.assertEqual(back.holes, [hole])
        for tune in self.tunes if tunes is None else tunes:
            moved = piece.filled(**{name: tune for name in piece.holes})
            self.assertEqual(back.filled(**{hole: moved}), tune)
        return back

    def assert_lost(self, piece, start, stop):
        with self.assertRaises(Lost) as caught:
            undo(piece)
        error = caught.exception
        self.assertEqual([type(error.start), type(error.stop)], [Moment, Moment])
        self.assertEqual((error.start, error.stop), (start, stop))

    def assert_no_move(self, piece, begin):
        with self.assertRaises(NoMove) as caught:
            undo(piece)
        self.assertIs(type(caught.exception.begin), Moment)
        self.assertEqual(caught.exception.begin, begin)


class Undone(MovesCase):
    def test_the_example_of_the_document(self):
        self.assertEqual(
            str(chart(undo(Piece.named("x") << Moment(1, 2)))), "rounds 1\ncell 0 1 01\nroute x 0 1 -1/2 1"
        )

    def test_steady_moves(self):
        for piece, back in (
            (X, X),
            (X + 3, X + -3),
            (X << Moment(2, 3), X >> Moment(2, 3)),
            (X * 3, X // 3),
            (X // Moment(5, 3), X * Moment(5, 3)),
            (X * 2 << 1, (X >> 1) // 2),
            (X + LONG << 60, X + -LONG >> 60),
            (X.nth(LONG, 1), X.nth(-LONG, 1)),
            (Piece.named("drum") * 60, Piece.named("drum") // 60),
        ):
            self.check_undone(piece)
            self.assertEqual(chart(undo(piece)), chart(back))

    def test_moves_of_rounds(self):
        for piece in (
            -X,
            -X << HALF,
            -(X << HALF),
            -X * 2,
            (-X) // Moment(3, 2),
            turns(X, X),
            turns(X, X, -X),
            turns(X, X << 1),
            turns(X.nth(0, 2), X.nth(1, 2)),
            turns(X.nth(1, 2), X.nth(0, 2)),
            turns(X + 1, X + 2),
            X.every(2, X << 2),
            X.every(3, -X, first=1),
            X.every(2, X + 5),
            X.only(0, HALF) + 1 | X.only(HALF, 1) + 2,
            (X << HALF).only(0, HALF) | (X >> HALF).only(HALF, 1),
            turns(X * 5, X // 6),
        ):
            self.check_undone(piece)

    def test_known_answers(self):
        self.assertEqual(chart(undo(-X)), chart(-X))
        self.assertEqual(chart(undo(-X << 1)), chart(-X >> 1))
        self.assertEqual(chart(undo(X.every(2, X << 2))), chart(X.every(2, X >> 2)))
        self.assertEqual(
            str(chart(undo(turns(X.nth(1, 2) + 4, X.nth(0, 2))))),
            "rounds 2\ncell 0 1 01\nroute x 0 1 1 1\ncell 1 2 01\nroute x -4 1 0 1",
        )

    def test_stretches_that_are_led_to_twice(self):
        for piece in (
            turns(X, X),
            turns(X, X, X >> 2),
            read("rounds 1", "cell 0 1/2 01", "route x 0 3 1/3 1", "cell 1/2 1 0"),
            read("rounds 1", "cell 0 1/2 01", "route x 0 2 1/3 1", "cell 1/2 1 01", "route x 1 -2 7/5 1"),
            read("rounds 2", "cell 0 1 01", "route x 7 5 0 1", "cell 1 2 0"),
        ):
            self.check_undone(piece)

    def test_stretches_that_go_round_the_end(self):
        # The second cell leads from 3/2 to 5/2, over the end of the rounds.
        piece = read("rounds 2", "cell 0 1 01", "route x 0 1 1/2 1", "cell 1 2 01", "route x 5 1 3/2 1")
        self.check_undone(piece)
        piece = read("rounds 2", "cell 0 1 01", "route x 0 -1 1/2 1", "cell 1 2 01", "route x 5 1 -7/2 1")
        self.check_undone(piece)
        piece = read("rounds 3", "cell 0 1/2 01", "route x 0 4 -1/3 1", "cell 1/2 3 01", "route x 1 -2/5 -1/3 1")
        self.check_undone(piece)

    def test_ways_of_different_speeds(self):
        # Even rounds from one cell, and the odd ones by two others that are twice as slow.
        piece = read(
            "rounds 3",
            "cell 0 1 01",
            "route x 0 1 0 2/3",
            "cell 1 2 01",
            "route x 1 1 1 4/3",
            "cell 2 3 01",
            "route x 2 1 3 4/3",
        )
        self.check_undone(piece)
        self.assertEqual(chart(undo(piece)).rounds, 4)

    def test_ways_that_are_not_needed(self):
        # One cell alone leads to everything; with the others it would come again after a very long time only.
        rows = ["rounds 7"]
        for k in range(6):
            rows.extend([f"cell {k} {k + 1} 01", f"route x 0 1/3 {k} 5{k}/61"])
        rows.extend(["cell 6 7 01", "route x 0 7 0 1"])
        self.assertEqual(str(chart(undo(read(*rows)))), "rounds 7\ncell 0 7 01\nroute x 0 1/7 6 1")

    def test_undone_pieces_are_used_like_any_other(self):
        back = undo(X << HALF)
        self.assertEqual(chart((back | Y) << HALF), chart(X | (Y << HALF)))
        self.assertEqual(chart(-back), chart(-(X >> HALF)))
        self.assertEqual(chart(chart(back).piece()), chart(X >> HALF))
        self.assertEqual((back & Y).holes, ["x", "y"])
        for piece in (X << HALF, -X, turns(X.nth(0, 2), -X.nth(1, 2)), X * 2):
            self.assertIs(alike(undo(undo(piece)), piece), True)

    def test_pieces_of_charts(self):
        for piece in (X << HALF, -X >> 1, turns(X, -X)):
            self.assertEqual(chart(undo(chart(piece).piece())), chart(undo(piece)))
            self.assertEqual(chart(undo(Chart.read(str(chart(piece))).piece())), chart(undo(piece)))

    def test_holes_that_do_not_matter(self):
        back = undo((X << 1) | (Y - Y))
        self.assertEqual(back.holes, ["x"])
        self.assertEqual(chart(back), chart(X >> 1))

    def test_pieces_stay(self):
        piece = turns(X, -X)
        before = str(chart(piece))
        undo(piece)
        undo(piece).holes.append("y")
        self.assertEqual((str(chart(piece)), piece.holes, undo(piece).holes), (before, ["x"], ["x"]))


class NoMoves(MovesCase):
    def test_charts_without_routes(self):
        for piece in (SILENCE, X - X, X & SILENCE, (X ^ X) | (Y - Y), chart(SILENCE).piece()):
            self.assert_no_move(piece, 0)

    def test_two_routes_in_a_cell(self):
        self.assert_no_move(X | Y, 0)
        self.assert_no_move(X | (X << 1), 0)
        self.assert_no_move(X ^ -X, 0)
        self.assert_no_move(X.every(3, X | (X << 1), first=2), 2)
        self.assert_no_move(X | (X << 1).only(HALF, Moment(3, 4)), HALF)
        self.assert_no_move(X.only(0, HALF) - (X << 1), 0)
        self.assert_no_move((X & (X << 1)).only(HALF, 1), HALF)

    def test_other_holes(self):
        self.assert_no_move(turns(X, Y), 1)
        self.assert_no_move(turns(Y, X), 1)
        self.assert_no_move(turns(SILENCE, Y, SILENCE, X), 3)
        self.assert_no_move(X.only(0, HALF) | Y.only(Moment(2, 3), 1), Moment(2, 3))
        self.assert_no_move(turns(X, X, Y, X | Y), 2)
        self.assert_no_move(turns(X, X, X | Y, Y), 2)

    def test_it_is_raised_in_front_of_what_is_lost(self):
        self.assert_no_move(turns(SILENCE, X.only(0, HALF), Y.only(0, HALF)), 2)
        self.assert_no_move((X | Y).only(0, HALF), 0)
        self.assert_no_move((X | Y).only(HALF, 1), HALF)


class LostStretches(MovesCase):
    def test_windows(self):
        self.assert_lost(X.only(0, HALF), HALF, 1)
        self.assert_lost(X.only(HALF, 1), 0, HALF)
        self.assert_lost(X.only(Moment(1, 3), HALF), 0, Moment(1, 3))
        self.assert_lost(X.only(0, Moment(LONG - 1, LONG)), Moment(LONG - 1, LONG), 1)
        self.assert_lost(X.only(0, 1, rounds=5), 1, 5)
        self.assert_lost(X.only(0, HALF) << Moment(1, 4), Moment(1, 2), 1)
        self.assert_lost((X << Moment(1, 4)).only(0, HALF), 0, Moment(1, 4))

    def test_around_the_moment_0(self):
        # The stretch that is lost goes from -1/4 to 1/4; it is told from 0 on.
        self.assert_lost(X.only(Moment(1, 4), Moment(3, 4)), 0, Moment(1, 4))
        self.assert_lost(X.only(2, 3, rounds=5), 0, 2)
        self.assert_lost(X.only(1, 5, rounds=5), 0, 1)
        self.assert_lost(X.only(0, 4, rounds=5), 4, 5)

    def test_stretches_over_the_end_of_the_rounds(self):
        piece = read("rounds 2", "cell 0 3/2 01", "route x 0 1 1 1", "cell 3/2 2 0")
        self.assert_lost(piece, HALF, 1)
        piece = read("rounds 2", "cell 0 1 01", "route x 0 -1 5/2 1", "cell 1 2 0")
        self.assert_lost(piece, HALF, Moment(3, 2))
        piece = read("rounds 2", "cell 0 1 01", "route x 0 1/2 0 1", "cell 1 2 01", "route x 0 1/2 7/4 1")
        self.assert_lost(piece, HALF, Moment(7, 4))

    def test_moves_of_rounds(self):
        self.assert_lost(X.nth(0, 2), 1, 2)
        self.assert_lost(X.nth(1, 2), 0, 1)
        self.assert_lost(X.every(2, X << 1), 0, 1)
        self.assert_lost(X.every(2, X << 1, first=1), 1, 2)
        self.assert_lost(X.every(2, X * 2), 2, 3)
        self.assert_lost(turns(X.nth(0, 2), X.nth(0, 2)), 1, 2)
        self.assert_lost(turns(X.nth(0, 3), X.nth(2, 3)), 1, 2)
        self.assert_lost(-(X.only(0, HALF)), HALF, 1)
        self.assert_lost((-X).only(0, HALF), 0, HALF)
        # The rounds that are one more than a multiple of 3.
        self.assert_lost(X.nth(LONG, 3), 0, 1)

    def test_ways_of_different_speeds(self):
        piece = read(
            "rounds 3",
            "cell 0 1 01",
            "route x 0 1 0 2/3",
            "cell 1 2 01",
            "route x 1 1 1 4/3",
            "cell 2 3 01",
            "route x 2 1 3 8/3",
        )
        self.assert_lost(piece, 7, 8)
        # Halves of rounds of different lengths, which come together again after a very long time only.
        rows = ["rounds 11"]
        for k in range(11):
            rows.extend([f"cell {k} {k + 1} 01", f"route x 0 1/2 0 {Moment(2 * k + 61, 60 * 11)}"])
        with self.assertRaises(Lost) as caught:
            undo(read(*rows))
        told = chart(read(*rows))
        start, stop = fraction(caught.exception.start), fraction(caught.exception.stop)
        self.assertTrue(0 <= start < stop)
        self.assertFalse(leads_to(told, "x", (start + stop) / 2))

    def test_random_pieces(self):
        found = {NoMove: 0, Lost: 0, Piece: 0}
        for seed in range(400):
            die = dice(seed)
            piece = self.random_piece(die)
            told = chart(piece)
            routes = [(cell, route) for cell in told.cells for route in cell.routes]
            hole = routes[0][1].hole if routes else None
            wrong = [c.begin for c in told.cells if len(c.routes) > 1 or any(r.hole != hole for r in c.routes)]
            try:
                self.check_undone(piece, [Tune(*random_tune(die)) for _ in range(2)])
                self.assertTrue(routes and not wrong, seed)
                for _ in range(8):
                    self.assertTrue(leads_to(told, hole, random_time(die, -20, 20)), seed)
                found[Piece] = found[Piece] + 1
            except NoMove as error:
                self.assertEqual(error.begin, [*wrong, Moment(0)][0], seed)
                self.assertTrue(wrong or not routes, seed)
                found[NoMove] = found[NoMove] + 1
            except Lost as error:
                self.assertFalse(wrong, seed)
                self.check_lost(die, told, hole, fraction(error.start), fraction(error.stop))
                found[Lost] = found[Lost] + 1
        self.assertGreater(min(found.values()), 50)

    def random_piece(self, die):
        if die.random() < 0.4:
            holes = die.choice(["x", "x", "xy"])
            return random_chart(die, ("1", "1", "2", "1/2", "3/2"), holes, die.choice([1, 1, 1, 2]))
        tree = ("hole", "x")
        for _ in range(die.randrange(5)):
            shift = Fraction(die.randrange(-7, 8), die.choice([1, 2, 3]))
            tree = die.choice(
                [
                    ("shift", tree, shift),
                    ("pace", tree, die.choice([Fraction(2), Fraction(1, 2), Fraction(3, 2)])),
                    ("mirror", tree),
                    ("every", tree, die.choice([2, 3]), ("shift", ("hole", "x"), Fraction(die.randrange(-3, 3))), 0),
                    ("nth", tree, die.randrange(-2, 3), die.choice([1, 1, 2])),
                    ("turns", tree, ("mirror", ("hole", "x"))),
                    ("up", tree, die.randrange(-2, 3)),
                    ("turns", tree, ("shift", tree, Fraction(1)), tree),
                ]
            )
        return build(tree if die.random() < 0.9 else random_tree(die, 4))

    def check_lost(self, die, told, hole, start, stop):
        """A Lost has the first lost stretch from 0 on, and the whole of it."""
        self.assertTrue(0 <= start < stop)
        little = Fraction(1, 1009**5)
        for _ in range(6):
            self.assertFalse(leads_to(told, hole, between(die, start, stop)))
            if start > 0:
                self.assertTrue(leads_to(told, hole, between(die, Fraction(0), start)))
        self.assertTrue(leads_to(told, hole, stop + little))
        self.assertFalse(leads_to(told, hole, stop - little))
        if start > 0:
            self.assertTrue(leads_to(told, hole, start - little))


class Restrictions(MovesCase):
    def test_what_came_from_undo_is_not_plain(self):
        for given in (undo(X), undo(X << 1), undo(X) | Y, Y - (X & undo(-X)), undo(chart(X).piece()), SILENCE ^ undo(Y)):
            for compare in (alike, within, apart, parting):
                self.assertRaises(NotPlain, compare, X, X, given=given)
                self.assertRaises(NotPlain, compare, X, Y, given=given)
            self.assertRaises(NotPlain, silent, X, given=given)

    def test_what_came_from_undo_is_compared(self):
        self.assertIs(alike(undo(X >> 2), X << 2), True)
        self.assertIs(within(undo(-X) & Y, Y, given=X & Y), True)
        self.assertIs(silent(undo(X) - X), True)
        found = parting(undo(X << 1), X)
        self.assertEqual(sorted(found.filling), ["x"])


class LargeMoves(MovesCase):
    def test_three_hundred_cells(self):
        die = dice(4)
        order = list(range(300))
        die.shuffle(order)
        rows = ["rounds 48"]
        for k in range(300):
            begin, source = Moment(48 * k, 300), Moment(48 * order[k], 300)
            rows.extend([f"cell {begin} {begin + Moment(48, 300)} 01", f"route x {k % 3} 1 {source} 1"])
        piece = read(*rows)
        self.check_undone(piece, self.tunes[:3])
        self.assertIs(alike(undo(undo(piece)), piece), True)

    def test_long_numbers(self):
        pace = Moment(LONG + 1, LONG - 1)
        self.assertEqual(chart(undo(X * pace)), chart(X // pace))
        piece = read("rounds 1", "cell 0 1 01", f"route x {LONG} -1 {Moment(LONG - 7, LONG)} 1")
        self.check_undone(piece, self.tunes[:1])
        self.assertEqual(chart(undo(undo(piece))), chart(piece))
        self.assert_lost(read("rounds 1", "cell 0 1 01", f"route x 0 1 0 {pace}"), 1, pace)


if __name__ == "__main__":
    unittest.main()
