"""anytune/live.py: points 27 to 29."""

import unittest
from fractions import Fraction

from anytune.charts import Chart, chart
from anytune.errors import NoPace, NoStretch, OutOfWindow, TooSoon
from anytune.live import Live
from anytune.marks import Mark
from anytune.moments import Moment
from anytune.moves import undo
from anytune.pace import lead, needed
from anytune.pieces import Piece, turns
from model import (
    build,
    copied,
    cut,
    dice,
    fraction,
    joined,
    moment,
    random_chart,
    random_marks,
    random_tree,
    told,
)

HALF = Moment(1, 2)
LONG = 10**59
X = Piece.named("x")
Y = Piece.named("y")
STEPS = [Mark(k, k, k + 1) for k in range(12)]


def window(takes, low, high):
    """The parts of recordings in [low, high)."""
    return {name: cut(takes[name], low, high) for name in takes}


class LiveCase(unittest.TestCase):
    def state(self, live):
        for time in (live.delay, live.now, live.shown):
            self.assertIs(type(time), Moment)
        return (str(live.delay), str(live.now), str(live.shown))

    def assert_raised(self, error, value, call, *args):
        with self.assertRaises(error) as caught:
            call(*args)
        self.assertEqual(list(vars(caught.exception).values()), [value])

    def play(self, live, takes, stops):
        """What a player shows of recordings whose windows end at the stops."""
        out = []
        low = Fraction(0)
        for stop in stops:
            out.extend(live.hear(moment(stop), window(takes, low, Fraction(stop))))
            low = Fraction(stop)
        return out


class Players(LiveCase):
    def test_the_example_of_the_document(self):
        live = Live(Piece.named("x") >> Moment(1, 2))
        mark = live.hear(1, {"x": [Mark(3, 0, 1)]})[0]
        self.assertEqual(
            [str(mark.begin), str(mark.end), str(mark.start), str(mark.stop)], ["1/2", "3/2", "1/2", "1"]
        )

    def test_at_the_start(self):
        for piece, delay in ((X, "0"), (X >> 7, "0"), (X << HALF, "1/2"), (-X, "1"), (turns(X, X) * 2, "1/2")):
            self.assertEqual(self.state(Live(piece)), (delay, "0", "0"))
            self.assertEqual(self.state(Live(piece, delay=None)), (delay, "0", "0"))
        self.assertEqual(self.state(Live(Piece.silence())), ("0", "0", "0"))
        self.assertEqual(self.state(Live(X, delay=3)), ("3", "0", "0"))
        self.assertEqual(self.state(Live(X, delay=Moment(7, 2))), ("7/2", "0", "0"))
        self.assertEqual(self.state(Live(-X, delay=1)), ("1", "0", "0"))
        self.assertRaises(TypeError, Live, X, 3)

    def test_too_soon(self):
        for piece, delay in ((X << HALF, 0), (-X, Moment(99, 100)), (-X, 0), (X << 2, Moment(2) - Moment(1, LONG))):
            with self.assertRaises(TooSoon) as caught:
                Live(piece, delay=delay)
            self.assertEqual(caught.exception.least, lead(piece))
            self.assertIs(type(caught.exception.least), Moment)
        self.assertRaises(TooSoon, lambda: Live(X, delay=-1))
        self.assertRaises(TooSoon, lambda: Live(Piece.silence(), delay=Moment(-1, 60)))
        self.assertEqual(str(Live(X << 2, delay=2).delay), "2")

    def test_no_pace(self):
        for piece, hole, speed in ((X * 2, "x", 2), ((X << 3) | Y // 2, "y", HALF), (turns(Y, X), "y", HALF)):
            for delay in (None, 0, -1, 99):
                with self.assertRaises(NoPace) as caught:
                    Live(piece, delay=delay)
                self.assertEqual((caught.exception.hole, caught.exception.speed), (hole, speed))


class Hearing(LiveCase):
    def test_now_and_shown(self):
        live = Live(X, delay=2)
        for until, now, shown in ((1, "1", "0"), (1, "1", "0"), (Moment(5, 2), "5/2", "1/2"), (9, "9", "7"), (9, "9", "7")):
            self.assertEqual(live.hear(until, {}), [])
            self.assertEqual(self.state(live), ("2", now, shown))
        live = Live(X)
        live.hear(0, {})
        self.assertEqual(self.state(live), ("0", "0", "0"))

    def test_what_is_shown(self):
        live = Live(X)
        self.assertEqual(told(live.hear(2, {"x": [Mark(1, 0, 5, start=1, stop=2), Mark(2, 0, 1)]})), ["2 0 1 0 1", "1 0 5 1 2"])
        self.assertEqual(told(live.hear(3, {"x": [Mark(1, 0, 5, start=2, stop=3)]})), ["1 0 5 2 3"])
        live = Live(X, delay=1)
        self.assertEqual(told(live.hear(2, {"x": [Mark(1, 0, 5, stop=2)]})), ["1 0 5 0 1"])
        self.assertEqual(told(live.hear(Moment(9, 4), {})), ["1 0 5 1 5/4"])
        self.assertEqual(told(live.hear(9, {})), ["1 0 5 5/4 2"])
        self.assertEqual(live.hear(20, {}), [])

    def test_earlier_marks_go_on_to_be_shown(self):
        live = Live(X >> 3)
        self.assertEqual(live.hear(1, {"x": [Mark(1, 0, 1)]}), [])
        self.assertEqual(live.hear(3, {}), [])
        self.assertEqual(told(live.hear(Moment(7, 2), {})), ["1 3 4 3 7/2"])
        self.assertEqual(told(live.hear(9, {})), ["1 3 4 7/2 4"])

    def test_before_the_start_all_is_silent(self):
        live = Live(Y - (X >> 2))
        self.assertEqual(told(live.hear(3, {"y": [Mark(1, 0, 3)], "x": [Mark(1, -2, 1, start=0)]})), ["1 0 3 0 2"])

    def test_mirrored_rounds(self):
        takes = {"x": [Mark(5, HALF, Moment(3, 2))]}
        live = Live(-X)
        self.assertEqual(self.play(live, takes, [1]), [])
        self.assertEqual(told(live.hear(Moment(3, 2), window(takes, Fraction(1), Fraction(3, 2)))), ["5 -1/2 1/2 0 1/2"])
        self.assertEqual(live.hear(Moment(7, 4), {}), [])
        # Round 1 shows the first half of its mark in its second half.
        self.assertEqual(told(live.hear(3, {})), ["5 3/2 5/2 3/2 2"])

    def test_a_longer_delay_shows_the_same_later(self):
        takes = {"x": STEPS, "y": [Mark(3, 0, 9)]}
        for piece in (X, -X, X.only(0, HALF) | (Y >> 1), (X ^ Y) << HALF):
            for more in (0, HALF, 1, 5):
                live = Live(piece, delay=lead(piece) + more)
                shown = self.play(live, takes, [1, 2, Fraction(5, 2), 7, 12])
                self.assertEqual(joined(shown), piece.over(takes, 0, live.shown))
                self.assertEqual(live.shown, 12 - live.delay)

    def test_holes_without_an_entry_and_other_entries(self):
        live = Live(X | Y)
        self.assertEqual(told(live.hear(1, {"y": [Mark(1, 0, 1)], "z": [Mark(2, 0, 1)]})), ["1 0 1 0 1"])
        # Recordings of names that are no hole may lie anywhere.
        self.assertEqual(live.hear(2, {"z": [Mark(2, -9, 99)], "No name": [Mark(1, 50, 51)]}), [])
        self.assertEqual(told(live.hear(3, {"x": [Mark(4, 2, 3)]})), ["4 2 3 2 3"])
        self.assertEqual(live.hear(4, {"x": [], "y": []}), [])
        live = Live(Piece.silence())
        self.assertEqual(live.hear(3, {"x": [Mark(1, 7, 8)]}), [])

    def test_parts_that_touch_or_overlap_in_any_order(self):
        parts = [Mark(1, 0, 9, start=1, stop=2), Mark(1, 0, 9, start=0, stop=1), Mark(1, 0, 9, start=HALF, stop=3)]
        for takes in (parts, parts[::-1], [*parts, *parts], [parts[2], parts[0], parts[1]]):
            for piece in (X, X | (Y >> 1), (X ^ Y) | X):
                self.assertEqual(told(Live(piece).hear(3, {"x": takes})), ["1 0 9 0 3"])
            self.assertEqual(Live(X ^ X).hear(3, {"x": takes}), [])
            live = Live(X >> 1, delay=2)
            live.hear(3, {"x": takes})
            self.assertEqual(told(live.kept("x")), ["1 0 9 0 3"])

    def test_the_order_of_readings(self):
        marks = [Mark(2, 0, 1), Mark(1, 0, 1), Mark(1, 0, 2), Mark(1, -1, 1, start=0), Mark(0, 1, 2)]
        expected = ["1 -1 1 0 1", "1 0 1 0 1", "2 0 1 0 1", "1 0 2 0 2", "0 1 2 1 2"]
        self.assertEqual(told(Live(X).hear(2, {"x": marks})), expected)
        self.assertEqual(told(Live(X).hear(2, {"x": marks[::-1]})), expected)

    def test_integers_and_moments(self):
        takes = {"x": [Mark(1, 0, 1)]}
        self.assertEqual(told(Live(X).hear(2, takes)), told(Live(X).hear(Moment(2), takes)))
        one, two = Live(X >> 1, delay=1), Live(X >> 1, delay=Moment(1))
        self.assertEqual(told(one.hear(Moment(3), takes)), told(two.hear(3, takes)))
        for mark in one.hear(9, {}):
            self.assertEqual([type(time) for time in (mark.begin, mark.end, mark.start, mark.stop)], [Moment] * 4)

    def test_far_away(self):
        for piece in (X, -X >> 1, (X << 1).only(0, HALF)):
            live = Live(piece)
            self.assertEqual(live.hear(LONG, {"x": [Mark(1, 2, 3)]}), piece.over({"x": [Mark(1, 2, 3)]}, -9, 9))
            late = [Mark(7, LONG, LONG + 2)]
            shown = live.hear(LONG + 2, {"x": late}) + live.hear(LONG + 9, {})
            self.assertEqual(joined(shown), piece.over({"x": late}, LONG - 9, LONG + 9))
            self.assertEqual(live.hear(3 * LONG, {}), [])


class WrongWindows(LiveCase):
    def test_no_stretch(self):
        live = Live(X, delay=1)
        live.hear(2, {"x": [Mark(1, 0, 2)]})
        before = self.state(live), told(live.kept("x"))
        for until in (1, -1, 0, Moment(3, 2), 2 - Moment(1, LONG), -LONG):
            self.assert_raised(NoStretch, until, live.hear, until, {})
            # It is raised in front of the other error.
            self.assert_raised(NoStretch, until, live.hear, until, {"x": [Mark(1, 7, 9)]})
            self.assertEqual((self.state(live), told(live.kept("x"))), before)
        self.assertEqual(told(live.hear(3, {})), ["1 0 2 1 2"])

    def test_out_of_window(self):
        live = Live(X | Y, delay=1)
        live.hear(2, {"x": [Mark(1, 0, 2)], "y": [Mark(4, 1, 2)]})
        before = self.state(live), told(live.kept("x")), told(live.kept("y"))
        good = Mark(5, 2, 3)
        for bad in (
            Mark(1, 0, 9, start=1, stop=3),
            Mark(1, 0, 9, start=2, stop=4),
            Mark(1, 0, 9, start=3, stop=4),
            Mark(1, 0, 9, start=0, stop=2),
            Mark(1, 0, 9),
            Mark(1, 2 - Moment(1, LONG), 3),
            Mark(1, 2, 3 + Moment(1, LONG)),
        ):
            for takes, name in (
                ({"x": [bad]}, "x"),
                ({"y": [bad], "x": [good]}, "y"),
                ({"y": [bad], "x": [good, bad]}, "x"),
                ({"a": [bad], "y": [good, good, bad]}, "y"),
            ):
                self.assert_raised(OutOfWindow, name, live.hear, 3, takes)
                self.assertEqual((self.state(live), told(live.kept("x")), told(live.kept("y"))), before)
        self.assertEqual(told(live.hear(3, {"x": [good]})), ["1 0 2 1 2", "4 1 2 1 2"])
        self.assertEqual(told(live.hear(4, {})), ["5 2 3 2 3"])

    def test_only_the_part_has_to_lie_in_the_window(self):
        live = Live(X)
        self.assertEqual(told(live.hear(1, {"x": [Mark(1, -LONG, LONG, start=0, stop=1)]})), [f"1 -{LONG} {LONG} 0 1"])
        self.assertEqual(told(live.hear(2, {"x": [Mark(1, 0, 9, start=1, stop=2)]})), ["1 0 9 1 2"])

    def test_empty_windows(self):
        live = Live(X)
        live.hear(2, {})
        self.assertEqual(live.hear(2, {"x": []}), [])
        for mark in (Mark(1, 2, 3), Mark(1, 1, 2), Mark(1, 0, 9)):
            self.assert_raised(OutOfWindow, "x", live.hear, 2, {"x": [mark]})
        self.assertEqual(self.state(live), ("0", "2", "2"))

    def test_holes_that_do_not_matter_are_holes(self):
        live = Live((X & (Y - Y)) | Piece.named("z"))
        self.assert_raised(OutOfWindow, "x", live.hear, 1, {"x": [Mark(1, 1, 2)], "z": [Mark(1, 1, 2)]})
        self.assert_raised(OutOfWindow, "y", live.hear, 1, {"y": [Mark(1, 1, 2)], "z": [Mark(1, 1, 2)]})
        self.assertEqual(live.hear(1, {"x": [Mark(1, 0, 1)]}), [])
        self.assertEqual(live.kept("x"), [])


class Kept(LiveCase):
    def test_a_hole(self):
        live = Live(X)
        self.assertEqual(live.kept("x"), [])
        live.hear(3, {"x": STEPS[:3]})
        self.assertEqual(live.kept("x"), [])
        live = Live(X, delay=HALF)
        live.hear(3, {"x": STEPS[:3]})
        self.assertEqual(told(live.kept("x")), ["2 2 3 5/2 3"])
        live.hear(Moment(13, 4), {})
        self.assertEqual(told(live.kept("x")), ["2 2 3 11/4 3"])
        live.hear(9, {})
        self.assertEqual(live.kept("x"), [])

    def test_windows_and_mirrors(self):
        live = Live(X.only(0, HALF) >> 1)
        live.hear(4, {"x": [Mark(1, 0, 9, stop=4)]})
        self.assertEqual(told(live.kept("x")), ["1 0 9 3 7/2"])
        live = Live(-X)
        live.hear(Moment(11, 2), {"x": [Mark(1, 0, 9, stop=Moment(11, 2))]})
        self.assertEqual(told(live.kept("x")), ["1 0 9 4 9/2", "1 0 9 5 11/2"])
        live = Live((X >> 2) | Y.only(0, HALF), delay=1)
        live.hear(5, {"x": [Mark(1, 0, 9, stop=5)], "y": [Mark(1, 0, 9, stop=5)]})
        self.assertEqual((told(live.kept("x")), told(live.kept("y"))), (["1 0 9 2 5"], ["1 0 9 4 9/2"]))

    def test_what_was_heard_in_many_windows_is_one_reading(self):
        live = Live(X >> 4)
        for k in range(40):
            live.hear(Moment(k + 1, 8), {"x": [Mark(1, 0, 9, start=Moment(k, 8), stop=Moment(k + 1, 8))]})
        self.assertEqual(told(live.kept("x")), ["1 0 9 1 5"])

    def test_names_that_are_no_holes(self):
        live = Live(X, delay=3)
        live.hear(2, {"x": [Mark(1, 0, 2)], "y": [Mark(1, 0, 2)]})
        for name in ("y", "", "No name", "self"):
            self.assertEqual(live.kept(name), [])
        self.assertEqual(told(live.kept("x")), ["1 0 2 0 2"])


class Arguments(LiveCase):
    def test_arguments_stay_and_may_change_later(self):
        takes = {"x": [Mark(2, 0, 1), Mark(1, 0, 3, start=1), Mark(1, 0, 3, stop=2)], "z": []}
        before = copied(takes["x"])
        live = Live(X >> 1, delay=1)
        live.hear(3, takes)
        self.assertEqual(takes, {"x": before, "z": []})
        kept = told(live.kept("x"))
        takes["x"].clear()
        takes["y"] = [Mark(9, 0, 1)]
        self.assertEqual(told(live.kept("x")), kept)
        self.assertEqual(told(live.hear(5, {})), ["1 1 4 2 4"])

    def test_results_are_new(self):
        live = Live(X >> 1, delay=1)
        live.hear(3, {"x": [Mark(1, 0, 3)]}).clear()
        live.kept("x").clear()
        self.assertEqual(told(live.kept("x")), ["1 0 3 1 3"])
        self.assertEqual(told(live.hear(5, {})), ["1 1 4 2 4"])

    def test_players_do_not_touch_each_other_or_the_piece(self):
        piece = X >> 1
        before = str(chart(piece))
        one, two = Live(piece), Live(piece)
        one.hear(3, {"x": [Mark(1, 0, 3)]})
        self.assertEqual(self.state(two), ("0", "0", "0"))
        self.assertEqual((two.hear(3, {}), str(chart(piece)), piece.holes), ([], before, ["x"]))


class WholeRecordings(LiveCase):
    """However the windows are cut, the parts make up the reading over the whole recordings."""

    def check(self, piece, takes, stops, delay):
        live = Live(piece, delay=delay)
        shown = []
        low = Fraction(0)
        for stop in stops:
            before = live.shown
            part = live.hear(moment(stop), window(takes, low, stop))
            low = stop
            self.assertEqual(live.now, moment(stop))
            self.assertEqual(fraction(live.shown), max(fraction(before), stop - fraction(live.delay)))
            self.assertEqual(part, piece.over(window(takes, Fraction(0), stop), before, live.shown))
            for name in takes:
                self.check_kept(live, piece, takes, name)
            shown.extend(part)
        self.assertEqual(joined(shown), piece.over(takes, 0, live.shown))

    def check_kept(self, live, piece, takes, name):
        expected = []
        for start, stop in needed(piece, name, live.now, delay=live.delay):
            expected.extend(cut(takes[name], fraction(start), fraction(stop)))
        self.assertEqual(live.kept(name), joined(expected) if name in piece.holes else [])

    def random_stops(self, die, end):
        stops = [Fraction(0)]
        while stops[-1] < end:
            steps = [0, Fraction(1, 3), Fraction(1, 2), 1, 1, 2, Fraction(7, 5), 5]
            stops.append(stops[-1] + die.choice(steps))
        return stops

    def random_takes(self, die):
        return {name: [mark for mark in random_marks(die, 12, 4) if mark.start >= 0] for name in "xyz"}

    def test_random_pieces(self):
        played = 0
        for seed in range(150):
            die = dice(seed)
            piece = build(random_tree(die, die.randrange(6))) if die.random() < 0.5 else random_chart(die, routes=4)
            if any(route.speed != 1 for cell in chart(piece).cells for route in cell.routes):
                continue
            least = lead(piece)
            delay = die.choice([None, least, least + Moment(1, 3), least + 1, least + 7])
            self.check(piece, self.random_takes(die), self.random_stops(die, 12), delay)
            played = played + 1
        self.assertGreater(played, 80)

    def test_pieces_of_charts_and_of_undo(self):
        for seed, piece in enumerate(
            (
                chart(-X).piece(),
                chart((X & Y) << HALF).piece(),
                Chart.read(str(chart((X >> 1) | -Y))).piece(),
                undo(X << HALF),
                undo(-X),
                undo(-X >> 1) | Y,
            )
        ):
            die = dice(seed)
            for delay in (None, lead(piece) + 2):
                self.check(piece, self.random_takes(die), self.random_stops(die, 12), delay)

    def test_cuts_anywhere(self):
        takes = {"x": [Mark(1, 0, 3, start=Moment(1, 3)), Mark(2, 1, 4, stop=Moment(7, 2))], "y": [Mark(1, 0, 6)]}
        for piece in (X - (Y >> HALF), -X & -Y, (X ^ Y).only(Moment(1, 4), Moment(3, 4))):
            for step in (Fraction(1, 7), Fraction(1, 4), Fraction(1, 2), 1, 2, 7):
                self.check(piece, takes, [Fraction(step) * k for k in range(1, int(8 / step) + 1)], None)


class LargeStretches(LiveCase):
    def test_delays_and_stretches_of_120_rounds(self):
        piece = (-X | (X >> 60)).only(0, HALF) | (Y & X)
        takes = {
            "x": [Mark(k % 5, Moment(k, 3), Moment(k + 9, 3)) for k in range(300)],
            "y": [Mark(k % 5, Moment(k, 3), Moment(k + 9, 3)) for k in range(300)],
        }
        expected = piece.over(takes, 0, 120)
        live = Live(piece, delay=120)
        shown = self.play(live, takes, range(1, 241))
        self.assertEqual(live.shown, 120)
        self.assertEqual(joined(shown), expected)
        live = Live(piece, delay=120)
        self.assertEqual(live.hear(120, window(takes, Fraction(0), Fraction(120))), [])
        self.assertEqual(live.hear(240, {}), expected)
        self.assertEqual(joined(live.kept("x")), live.kept("x"))

    def test_many_marks_in_many_windows(self):
        piece = X.only(0, HALF) | (X + 7 >> 1)
        live = Live(piece, delay=2)
        takes = {"x": [Mark(k % 5, Moment(k, 100), Moment(k + 9, 100)) for k in range(12000)]}
        many = 0
        for k in range(120):
            part = [mark for mark in takes["x"][100 * k:100 * k + 91]]
            many = many + len(live.hear(k + 1, {"x": part}))
        self.assertEqual(live.shown, 118)
        self.assertGreater(many, 15000)
        for mark in live.kept("x"):
            self.assertGreaterEqual(mark.start, 117)
        # What is no longer needed is no longer remembered either, give or take a few rows.
        self.assertLess(sum(len(record.rows) for record in live.records.values()), 2000)

    def test_long_numbers(self):
        die = dice(3)
        piece = (X << Moment(1, LONG)) & (Y >> Moment(7, LONG + 1))
        takes = {}
        for name in "xy":
            times = [Moment(die.randrange(10**59), 10**59 + die.randrange(10**59)) for _ in range(40)]
            takes[name] = [Mark(k % 2, time, time + k + 1) for k, time in enumerate(times)]
        live = Live(piece)
        shown = self.play(live, takes, [Fraction(k, 10**59 - 1) for k in (1, LONG, 3 * LONG, 50 * LONG)])
        self.assertEqual(joined(shown), piece.over(takes, 0, live.shown))


if __name__ == "__main__":
    unittest.main()
