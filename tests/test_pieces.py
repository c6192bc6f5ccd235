"""anytune/pieces.py: points 10 to 16."""

import unittest
from fractions import Fraction

from anytune.charts import chart
from anytune.errors import BadPace, NoName, NoStep, NoTurns, NoWindow, Unfilled
from anytune.marks import Mark
from anytune.moments import Moment
from anytune.pieces import Piece, turns
from anytune.tunes import Tune
from model import (
    build,
    copied,
    dice,
    moment,
    random_marks,
    random_time,
    random_tree,
    random_tune,
    reading_at,
    row,
    shows,
    take_pattern,
    told,
    tune_pattern,
)

HALF = Moment(1, 2)
LONG = 10**59
X = Piece.named("x")
Y = Piece.named("y")
# One mark in each of the rounds from 0 to 9, with the number of the round as its tone.
STEPS = [Mark(k, k, k + 1) for k in range(10)]


def played(piece, begin, end, x=(), y=()):
    """The reading of a piece of x and y when they are filled with these recordings."""
    return told(piece.over({"x": list(x), "y": list(y)}, begin, end))


class Names(unittest.TestCase):
    def test_names(self):
        for name in ("a", "z", "x", "drum", "abcdefgh", "selfs", "sel", "none"):
            piece = Piece.named(name)
            self.assertIs(type(piece), Piece)
            self.assertEqual(piece.holes, [name])

    def test_no_names(self):
        for name in (
            "",
            "abcdefghi",
            "self",
            "A",
            "aB",
            "a1",
            "a b",
            " a",
            "a\n",
            "\t",
            "_",
            "a-b",
            "a.b",
            "x" * 1000,
            "`",
            "{",
        ):
            with self.assertRaises(NoName) as caught:
                Piece.named(name)
            self.assertEqual(caught.exception.name, name)

    def test_holes(self):
        self.assertEqual(Piece.silence().holes, [])
        self.assertEqual((Y | X).holes, ["x", "y"])
        self.assertEqual((X - X).holes, ["x"])
        self.assertEqual((X & Piece.silence()).holes, ["x"])
        self.assertEqual(turns(Y, Piece.named("a"), X, X).holes, ["a", "x", "y"])
        self.assertEqual(X.every(1, Y).holes, ["x", "y"])
        self.assertEqual(Y.every(2, X).holes, ["x", "y"])
        for piece in (X + 1, 1 + X, X << 1, X >> 1, X * 2, 2 * X, X // 2, -X, X.only(0, 1), X.nth(1, 2), turns(X)):
            self.assertEqual(piece.holes, ["x"])
        self.assertEqual(chart(X - X).piece().holes, [])

    def test_holes_are_new_lists(self):
        piece = X | Y
        piece.holes.append("z")
        self.assertEqual(piece.holes, ["x", "y"])
        self.assertIs(type(piece.holes), list)
        other = piece + 1
        other.holes.clear()
        self.assertEqual((piece.holes, other.holes), (["x", "y"], ["x", "y"]))


class TwoPieces(unittest.TestCase):
    def setUp(self):
        self.low = [Mark(1, 0, 4, stop=3)]
        self.high = [Mark(1, 0, 4, start=2)]

    def test_the_four_operators(self):
        self.assertEqual(played(X | Y, -9, 9, self.low, self.high), ["1 0 4 0 4"])
        self.assertEqual(played(X & Y, -9, 9, self.low, self.high), ["1 0 4 2 3"])
        self.assertEqual(played(X - Y, -9, 9, self.low, self.high), ["1 0 4 0 2"])
        self.assertEqual(played(Y - X, -9, 9, self.low, self.high), ["1 0 4 3 4"])
        self.assertEqual(played(X ^ Y, -9, 9, self.low, self.high), ["1 0 4 0 2", "1 0 4 3 4"])

    def test_marks_that_differ_do_not_meet(self):
        for other in (Mark(2, 0, 4), Mark(1, 0, 5), Mark(1, -1, 4)):
            self.assertEqual(played(X & Y, -9, 9, [Mark(1, 0, 4)], [other]), [])
            self.assertEqual(played(X - Y, -9, 9, [Mark(1, 0, 4)], [other]), ["1 0 4 0 4"])

    def test_silence(self):
        self.assertEqual(played(Piece.silence(), -9, 9, self.low), [])
        self.assertEqual(played(X | Piece.silence(), -9, 9, self.low), ["1 0 4 0 3"])
        self.assertEqual(played(Piece.silence() - X, -9, 9, self.low), [])

    def test_other_operands(self):
        tune = Tune.empty()
        for wrong in (
            lambda: X | 1,
            lambda: X & None,
            lambda: X - 1,
            lambda: 1 - X,
            lambda: X ^ tune,
            lambda: tune | X,
            lambda: X + X,
            lambda: X + HALF,
            lambda: HALF + X,
            lambda: X << X,
            lambda: 1 << X,
            lambda: X * X,
            lambda: 2 // X,
        ):
            self.assertRaises(TypeError, wrong)


class Leads(unittest.TestCase):
    def test_tones(self):
        self.assertEqual(played(X + 3, 0, 9, [Mark(1, 0, 2)]), ["4 0 2 0 2"])
        self.assertEqual(played(-3 + X, 0, 9, [Mark(1, 0, 2)]), ["-2 0 2 0 2"])
        self.assertEqual(played(X + LONG, 0, 9, [Mark(1, 0, 2)]), [f"{LONG + 1} 0 2 0 2"])

    def test_shifts(self):
        marks = [Mark(1, 0, 2, start=1)]
        self.assertEqual(played(X << 1, -9, 9, marks), ["1 -1 1 0 1"])
        self.assertEqual(played(X >> 1, -9, 9, marks), ["1 1 3 2 3"])
        self.assertEqual(played(X << Moment(-1, 2), -9, 9, marks), ["1 1/2 5/2 3/2 5/2"])
        self.assertEqual(played(X >> HALF, -9, 9, marks), ["1 1/2 5/2 3/2 5/2"])
        self.assertEqual(played(X << 0, -9, 9, marks), ["1 0 2 1 2"])

    def test_paces(self):
        marks = [Mark(1, 0, 4, start=2)]
        self.assertEqual(played(X * 2, -9, 9, marks), ["1 0 2 1 2"])
        self.assertEqual(played(2 * X, -9, 9, marks), ["1 0 2 1 2"])
        self.assertEqual(played(Moment(2, 3) * X, -9, 9, marks), ["1 0 6 3 6"])
        self.assertEqual(played(X * Moment(2, 3), -9, 9, marks), ["1 0 6 3 6"])
        self.assertEqual(played(X // 2, -9, 9, marks), ["1 0 8 4 8"])
        self.assertEqual(played(X // Moment(2, 3), -9, 9, marks), ["1 0 8/3 4/3 8/3"])

    def test_bad_paces(self):
        for pace in (0, -1, -LONG, Moment(0), Moment(-1, 60)):
            for lead in (lambda: X * pace, lambda: pace * X, lambda: X // pace, lambda: Piece.silence() * pace):
                with self.assertRaises(BadPace) as caught:
                    lead()
                self.assertEqual(caught.exception.pace, pace)

    def test_mirrors(self):
        self.assertEqual(played(-X, 0, 1, [Mark(5, HALF, Moment(3, 2))]), ["5 -1/2 1/2 0 1/2"])
        self.assertEqual(played(-X, 0, 9, [Mark(5, 0, Moment(1, 4))]), ["5 3/4 1 3/4 1"])
        self.assertEqual(played(-X, -9, 9, [Mark(5, -1, Moment(1, 4))]), ["5 -5/4 0 -1 0", "5 3/4 2 3/4 1"])
        self.assertEqual(played(-X, -9, 9, [Mark(5, 3, 4, start=3, stop=Moment(10, 3))]), ["5 3 4 11/3 4"])
        self.assertEqual(played(-(-X), -9, 9, [Mark(5, -1, Moment(1, 4))]), ["5 -1 1/4 -1 1/4"])

    def test_the_example_of_the_document(self):
        tune = (-Piece.named("x")).filled(x=Tune(2, [Mark(5, Moment(1, 2), Moment(3, 2))]))
        mark = tune(0, 1)[0]
        self.assertEqual(
            [len(tune(0, 1)), str(mark.begin), str(mark.end), str(mark.start), str(mark.stop)],
            [1, "-1/2", "1/2", "0", "1/2"],
        )


class Choices(unittest.TestCase):
    def test_only(self):
        mark = [Mark(1, 0, 3)]
        self.assertEqual(played(X.only(0, 1), -9, 9, mark), ["1 0 3 0 3"])
        self.assertEqual(played(X.only(HALF, 1), -9, 9, mark), ["1 0 3 1/2 1", "1 0 3 3/2 2", "1 0 3 5/2 3"])
        self.assertEqual(played(X.only(0, HALF), -9, 9, mark), ["1 0 3 0 1/2", "1 0 3 1 3/2", "1 0 3 2 5/2"])
        self.assertEqual(played(X.only(0, 1, rounds=2), -9, 9, mark), ["1 0 3 0 1", "1 0 3 2 3"])
        self.assertEqual(played(X.only(Moment(1), Moment(2), rounds=2), -9, 9, mark), ["1 0 3 1 2"])
        self.assertEqual(played(X.only(1, Moment(5, 2), rounds=3), -9, 9, [Mark(1, -3, 0)]), ["1 -3 0 -2 -1/2"])
        self.assertEqual(played(X.only(0, LONG, rounds=LONG), -9, 9, mark), ["1 0 3 0 3"])
        self.assertEqual(played(X.only(1, LONG, rounds=LONG), -9, 9, mark), ["1 0 3 1 3"])

    def test_no_window(self):
        for begin, end, rounds in (
            (0, 0, 1),
            (HALF, HALF, 1),
            (1, 0, 1),
            (-1, 1, 1),
            (Moment(-1, 60), 1, 1),
            (0, 2, 1),
            (0, Moment(61, 60), 1),
            (1, 2, 1),
            (0, 1, 0),
            (0, 1, -1),
            (-2, -1, -1),
            (0, 0, 0),
            (3, 2, 5),
            (0, LONG + 1, LONG),
        ):
            with self.assertRaises(NoWindow) as caught:
                X.only(begin, end, rounds=rounds)
            error = caught.exception
            self.assertEqual((error.begin, error.end, error.rounds), (begin, end, rounds))
        with self.assertRaises(NoWindow) as caught:
            X.only(0, 2)
        self.assertEqual(caught.exception.rounds, 1)

    def test_every(self):
        x, y = [Mark(1, -9, 9)], [Mark(2, -9, 9)]
        self.assertEqual(played(X.every(3, Y), -1, 4, x, y), ["1 -9 9 -1 0", "2 -9 9 0 1", "1 -9 9 1 3", "2 -9 9 3 4"])
        self.assertEqual(played(X.every(3, Y, first=1), 0, 3, x, y), ["1 -9 9 0 1", "2 -9 9 1 2", "1 -9 9 2 3"])
        for first in (-2, 4, 1 + 3 * LONG, 1 - 3 * LONG):
            self.assertEqual(
                told(X.every(3, Y, first=first).over({"x": x, "y": y}, -5, 9)),
                told(X.every(3, Y, first=1).over({"x": x, "y": y}, -5, 9)),
            )
        self.assertEqual(played(X.every(1, Y), -1, 4, x, y), ["2 -9 9 -1 4"])
        self.assertEqual(played(X.every(2, X + 1), 0, 2, x), ["2 -9 9 0 1", "1 -9 9 1 2"])

    def test_nth(self):
        self.assertEqual(played(X.nth(1, 3), 0, 3, STEPS), ["1 0 1 0 1", "4 1 2 1 2", "7 2 3 2 3"])
        self.assertEqual(played(X.nth(7, 2), -3, 0, STEPS), ["1 -3 -2 -3 -2", "3 -2 -1 -2 -1", "5 -1 0 -1 0"])
        self.assertEqual(played(X.nth(-LONG, 1), LONG, LONG + 1, STEPS), [f"0 {LONG} {LONG + 1} {LONG} {LONG + 1}"])
        self.assertEqual(played(X.nth(0, 1), -9, 99, STEPS), told(STEPS))
        self.assertEqual(played(X.nth(0, 2), 0, 2, [Mark(1, 0, 3)]), ["1 0 3 0 1", "1 -1 2 1 2"])

    def test_no_step(self):
        for step in (0, -1, -LONG):
            for wrong in (
                lambda: X.every(step, Y),
                lambda: X.nth(3, step),
                lambda: Piece.silence().every(step, Y, first=5),
            ):
                with self.assertRaises(NoStep) as caught:
                    wrong()
                self.assertEqual(caught.exception.step, step)

    def test_turns(self):
        ups = [Mark(mark.tone + 20, mark.begin, mark.end) for mark in STEPS]
        expected = ["0 0 1 0 1", "20 1 2 1 2", "1 2 3 2 3", "21 3 4 3 4", "2 4 5 4 5"]
        self.assertEqual(played(turns(X, Y), 0, 5, STEPS, ups), expected)
        self.assertEqual(played(turns(X), -9, 99, STEPS), told(STEPS))
        self.assertEqual(played(turns(X, X), 0, 4, STEPS), ["0 0 1 0 1", "0 1 2 1 2", "1 2 3 2 3", "1 3 4 3 4"])
        before = [Mark(k, k, k + 1) for k in range(-5, 0)]
        self.assertEqual(played(turns(X, Y), -3, 0, before, STEPS), ["-1 -2 -1 -2 -1"])
        self.assertEqual(
            played(turns(X, X, X), -4, 0, before),
            ["-2 -4 -3 -4 -3", "-1 -3 -2 -3 -2", "-1 -2 -1 -2 -1", "-1 -1 0 -1 0"],
        )

    def test_no_turns(self):
        self.assertRaises(NoTurns, turns)


class Filled(unittest.TestCase):
    def test_tunes(self):
        x, y = Tune(2, [Mark(1, 0, 1)]), Tune(1, [Mark(1, 0, 1)])
        self.assertEqual((X | Y).filled(x=x, y=y), y)
        self.assertEqual((Y - X).filled(x=x, y=y), Tune(2, [Mark(1, 1, 2)]))
        self.assertEqual((X.only(0, HALF)).filled(x=y), Tune(1, [Mark(1, 0, 1, stop=HALF)]))
        self.assertEqual(turns(X, Y).filled(x=y, y=y), y)
        self.assertEqual(Piece.silence().filled(), Tune.empty())
        self.assertIs(type(X.filled(x=x)), Tune)
        self.assertEqual(X.filled(x=x), x)

    def test_parts_go_on_over_rounds(self):
        tune = Tune(3, [Mark(1, 0, 5)])
        self.assertEqual(X.every(2, X).filled(x=tune), tune)
        self.assertEqual((X.only(0, HALF) | X.only(HALF, 1)).filled(x=tune), tune)

    def test_tunes_for_other_names_are_ignored(self):
        x = Tune(2, [Mark(1, 0, 1)])
        self.assertEqual(X.filled(x=x, y=Tune.empty(), zither=x), x)
        self.assertEqual(Piece.silence().filled(x=x), Tune.empty())
        self.assertEqual(X.filled(**{"x": x, "No name": x}), x)

    def test_unfilled(self):
        tune = Tune.empty()
        piece = Piece.named("b") | Piece.named("a") | Piece.named("c")
        for tunes, name in (
            ({}, "a"),
            ({"a": tune}, "b"),
            ({"a": tune, "b": tune, "d": tune}, "c"),
            ({"c": tune, "b": tune}, "a"),
        ):
            with self.assertRaises(Unfilled) as caught:
                piece.filled(**tunes)
            self.assertEqual(caught.exception.name, name)
        # A hole has to be filled even where it shows nothing.
        for piece in (X - X, X & Piece.silence(), Y.every(1, Piece.silence()) - X):
            self.assertRaises(Unfilled, piece.filled)

    def test_tunes_stay(self):
        x = Tune(2, [Mark(1, 0, 1)])
        tunes = {"x": x}
        ((-X).only(0, HALF) | X * 2).filled(**tunes)
        self.assertEqual(told(x.marks), ["1 0 1 0 1"])
        self.assertEqual(list(tunes), ["x"])

    def test_long_marks_and_long_numbers(self):
        long = Tune(1, [Mark(1, 0, LONG)])
        self.assertEqual((X & Y).filled(x=long, y=Tune(2, [Mark(1, 0, LONG)])), Tune(2, [Mark(1, 0, LONG)]))
        self.assertEqual((X | Y.only(0, HALF)).filled(x=long, y=Tune.empty()), long)
        pace = Moment(LONG + 1, LONG - 1)
        self.assertEqual(((X & Y) * pace).filled(x=Tune(3, [Mark(1, 0, 1)]), y=Tune(2, [Mark(2, 0, 1)])), Tune.empty())
        self.assertEqual((X * pace).only(0, HALF).filled(x=Tune.empty()), Tune.empty())
        self.assertEqual(X.nth(LONG, 1).filled(x=Tune(3, [Mark(1, 0, 1)])), Tune(3, [Mark(1, -LONG, 1 - LONG)]))


class Over(unittest.TestCase):
    def test_recordings_do_not_repeat(self):
        self.assertEqual(played(X, -60, 60, [Mark(1, 0, 1)]), ["1 0 1 0 1"])
        self.assertEqual(played(X, Moment(1, 4), HALF, [Mark(1, 0, 1)]), ["1 0 1 1/4 1/2"])

    def test_parts_overlap_touch_or_stand_twice(self):
        marks = [Mark(1, 0, 4, start=1, stop=3), Mark(1, 0, 4, stop=2), Mark(1, 0, 4, stop=2), Mark(1, 0, 4, start=3)]
        self.assertEqual(played(X, -1, 9, marks), ["1 0 4 0 4"])
        self.assertEqual(played(X ^ X, -1, 9, marks), [])

    def test_parts_that_go_on_are_joined(self):
        marks = [Mark(1, 0, 4)]
        self.assertEqual(played(X.only(0, HALF) | X.only(HALF, 1), 1, 3, marks), ["1 0 4 1 3"])
        self.assertEqual(played(X.every(2, X | Y), 0, 4, marks), ["1 0 4 0 4"])

    def test_the_order(self):
        marks = [Mark(2, 0, 1), Mark(1, 0, 1), Mark(1, 0, 2), Mark(1, -1, 1), Mark(0, 1, 2), Mark(7, -1, 5, stop=0)]
        expected = ["1 -1 1 0 1", "1 0 1 0 1", "2 0 1 0 1", "1 0 2 0 2", "0 1 2 1 2"]
        self.assertEqual(played(X, 0, 3, marks), expected)
        self.assertEqual(played(X, 0, 3, marks[::-1]), expected)

    def test_empty_stretches(self):
        for begin, end in ((0, 0), (HALF, HALF), (1, 0), (5, -5), (Moment(3, 4), HALF)):
            for piece in (X, -X, X.only(0, HALF), Piece.silence()):
                self.assertEqual(played(piece, begin, end, [Mark(1, -9, 9)]), [])

    def test_recordings_for_other_names_and_for_none(self):
        marks = [Mark(1, 0, 1)]
        self.assertEqual(told((X | Y).over({"y": marks}, 0, 5)), ["1 0 1 0 1"])
        self.assertEqual(told((X | Y).over({}, 0, 5)), [])
        self.assertEqual(told((X - Y).over({"x": marks, "z": marks, "no name": marks}, 0, 5)), ["1 0 1 0 1"])
        self.assertEqual(told(X.over({"x": []}, 0, 5)), [])

    def test_integers_and_moments(self):
        for piece in (X, -X, X.only(0, HALF), X * Moment(3, 2)):
            expected = played(piece, -2, 5, STEPS)
            self.assertEqual(played(piece, Moment(-2), 5, STEPS), expected)
            self.assertEqual(played(piece, -2, Moment(5), STEPS), expected)
            for mark in piece.over({"x": STEPS}, -2, 5):
                for time in (mark.begin, mark.end, mark.start, mark.stop):
                    self.assertIs(type(time), Moment)

    def test_far_away(self):
        mark = Mark(1, LONG, LONG + 2)
        self.assertEqual(
            played(X >> 60, LONG + 50, LONG + 70, [mark]), [f"1 {LONG + 60} {LONG + 62} {LONG + 60} {LONG + 62}"]
        )
        self.assertEqual(played(-X, LONG, LONG + 1, [mark]), [f"1 {LONG - 1} {LONG + 1} {LONG} {LONG + 1}"])
        self.assertEqual(played(X.nth(LONG, 2), 0, 1, [mark]), ["1 0 2 0 1"])

    def test_arguments_stay_and_results_are_new(self):
        takes = {"x": [Mark(2, 0, 1), Mark(1, 0, 3, start=1), Mark(1, 0, 3, stop=2)], "z": []}
        before = copied(takes["x"])
        reading = X.over(takes, 0, 5)
        expected = told(reading)
        self.assertEqual(takes, {"x": before, "z": []})
        reading.clear()
        self.assertEqual(told(X.over(takes, 0, 5)), expected)

    def test_many_marks_and_cells(self):
        x, y = ("hole", "x"), ("hole", "y")
        tree = ("turns", *[("or", ("only", x, Fraction(k, 20), Fraction(k + 7, 20), 1), y) for k in range(12)])
        takes = {
            "x": [Mark(k % 5, Moment(k, 5), Moment(k + 9, 5)) for k in range(300)],
            "y": [Mark(k % 4, Moment(k, 5), Moment(k + 9, 5)) for k in range(300)],
        }
        reading = build(tree).over(takes, -60, 60)
        patterns = {name: take_pattern(takes[name]) for name in takes}
        die = dice(1)
        for _ in range(50):
            t = random_time(die, -60, 60)
            self.assertEqual(reading_at(reading, t), shows(tree, patterns, t))


class RandomPieces(unittest.TestCase):
    """Random expressions show what the rules say, moment by moment."""

    def test_filled_and_over(self):
        for seed in range(150):
            die = dice(seed)
            tree = random_tree(die, die.randrange(8))
            piece = build(tree)
            raw = {name: random_tune(die) for name in "xy"}
            tune = piece.filled(**{name: Tune(*raw[name]) for name in raw})
            patterns = {name: tune_pattern(*raw[name]) for name in raw}
            takes = {name: random_marks(die, 8, 3) for name in raw}
            low = random_time(die, -8, 8)
            reading = piece.over(takes, moment(low), moment(low + 5))
            self.assertEqual(reading, sorted(reading, key=row))
            recorded = {name: take_pattern(takes[name]) for name in takes}
            for _ in range(8):
                t = random_time(die, -30, 30)
                shown = reading_at(tune(moment(t), moment(t + 1)), t)
                self.assertEqual(shown, shows(tree, patterns, t), (seed, tree))
                t = low + random_time(die, 0, 5)
                self.assertEqual(reading_at(reading, t), shows(tree, recorded, t), (seed, tree))

    def test_readings_have_the_longest_parts(self):
        for seed in range(150, 250):
            die = dice(seed)
            piece = build(random_tree(die, die.randrange(8)))
            stops = {}
            for mark in piece.over({name: random_marks(die, 8, 3) for name in "xy"}, -4, 6):
                start, stop, *key = row(mark)
                self.assertGreater(start, stops.get(tuple(key), start - 1), seed)
                stops[tuple(key)] = stop
                self.assertTrue(-4 <= start and stop <= 6)


if __name__ == "__main__":
    unittest.main()
