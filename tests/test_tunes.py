"""anytune/tunes.py: points 7 to 9, with points 1 to 6 as far as tunes have to do with them."""

import unittest

from anytune.errors import BadPace, NoRounds
from anytune.marks import Mark
from anytune.moments import Moment
from anytune.tunes import Tune
from model import build, copied, dice, moment, random_time, random_tree, random_tune, reading_at, told, tune_pattern

HALF = Moment(1, 2)
LONG = 10**59


class Form(unittest.TestCase):
    def assert_form(self, tune, rounds, marks):
        self.assertIs(type(tune.rounds), int)
        self.assertEqual(tune.rounds, rounds)
        self.assertIs(type(tune.marks), list)
        self.assertEqual(told(tune.marks), marks)
        self.assertEqual(len(tune), len(marks))
        for mark in tune.marks:
            self.assertIs(type(mark), Mark)
            for time in (mark.begin, mark.end, mark.start, mark.stop):
                self.assertIs(type(time), Moment)

    def test_example_of_the_document(self):
        tune = Tune(2, [Mark(60, 0, Moment(3, 2))])
        first = tune(1, 4)[0]
        second = tune(1, 4)[1]
        self.assertEqual(
            [len(tune(1, 4)), str(first.begin), str(first.start), str(first.stop), str(second.begin), str(second.stop)],
            [2, "0", "1", "3/2", "2", "7/2"],
        )
        self.assert_form(tune, 2, ["60 0 3/2 0 3/2"])

    def test_empty(self):
        self.assert_form(Tune.empty(), 1, [])
        self.assert_form(Tune(1, []), 1, [])
        self.assert_form(Tune(7, []), 1, [])
        self.assert_form(Tune(LONG, []), 1, [])

    def test_parts_overlap_touch_or_stand_twice(self):
        whole = ["1 0 3 0 3"]
        low, high = Mark(1, 0, 3, stop=2), Mark(1, 0, 3, start=1)
        self.assert_form(Tune(4, [low, high]), 4, whole)
        self.assert_form(Tune(4, [high, low, high, low]), 4, whole)
        self.assert_form(Tune(4, [Mark(1, 0, 3, stop=1), high]), 4, whole)
        self.assert_form(Tune(4, [Mark(1, 0, 3), Mark(1, 0, 3, start=1, stop=2)]), 4, whole)
        # The same parts, told at other repetitions.
        self.assert_form(Tune(4, [low, Mark(1, -8, -5, start=-7)]), 4, whole)

    def test_parts_with_a_gap(self):
        marks = [Mark(1, 0, 3, stop=1), Mark(1, 0, 3, start=2)]
        self.assert_form(Tune(4, marks), 4, ["1 0 3 0 1", "1 0 3 2 3"])
        self.assert_form(Tune(1, marks), 1, ["1 -2 1 0 1", "1 0 3 0 1"])

    def test_parts_outside_of_the_rounds(self):
        for begin in (-9, -3, 1, 7, 2 * LONG + 1):
            self.assert_form(Tune(2, [Mark(1, begin, begin + 1)]), 2, ["1 1 2 1 2"])
        self.assert_form(Tune(2, [Mark(1, 0, 9, start=5, stop=6)]), 2, ["1 -4 5 1 2"])
        self.assert_form(Tune(3, [Mark(-4, -1, 1)]), 3, ["-4 2 4 2 4"])

    def test_marks_longer_than_the_rounds(self):
        self.assert_form(Tune(1, [Mark(1, 0, Moment(5, 2))]), 1, ["1 0 5/2 0 5/2"])
        self.assert_form(Tune(1, [Mark(1, 0, LONG)]), 1, [f"1 0 {LONG} 0 {LONG}"])
        self.assert_form(Tune(1, [Mark(1, -LONG, LONG, start=7, stop=8)]), 1, [f"1 {-LONG - 7} {LONG - 7} 0 1"])

    def test_least_rounds(self):
        self.assert_form(Tune(4, [Mark(1, 0, 1), Mark(1, 2, 3)]), 2, ["1 0 1 0 1"])
        self.assert_form(Tune(4, [Mark(1, 0, 1), Mark(2, 2, 3)]), 4, ["1 0 1 0 1", "2 2 3 2 3"])
        self.assert_form(Tune(2, [Mark(1, 0, 1), Mark(1, 1, 2)]), 1, ["1 0 1 0 1"])
        self.assert_form(Tune(6, [Mark(1, k, k + 1) for k in (4, 0, 2)]), 2, ["1 0 1 0 1"])
        self.assert_form(Tune(6, [Mark(1, k, k + 1) for k in (1, 4)]), 3, ["1 1 2 1 2"])
        self.assert_form(
            Tune(6, [Mark(1, k, k + 1) for k in (0, 1, 3, 5)]), 6, [f"1 {k} {k + 1} {k} {k + 1}" for k in (0, 1, 3, 5)]
        )
        self.assert_form(
            Tune(48, [Mark(k % 3, k, k + 2) for k in range(48)]), 3, ["0 0 2 0 2", "1 1 3 1 3", "2 2 4 2 4"]
        )

    def test_rounds_in_which_one_thing_alone_differs(self):
        first = Mark(1, 0, 3, stop=HALF)
        for second in (
            Mark(2, 1, 4, start=1, stop=Moment(3, 2)),
            Mark(1, 1, 4, start=1, stop=Moment(4, 3)),
            Mark(1, 1, 5, start=1, stop=Moment(3, 2)),
            Mark(1, 0, 4, start=1, stop=Moment(3, 2)),
            Mark(1, Moment(4, 3), Moment(13, 3), start=Moment(4, 3), stop=Moment(11, 6)),
        ):
            tune = Tune(
                4,
                [
                    first,
                    second,
                    *[
                        Mark(m.tone, m.begin + 2, m.end + 2, start=m.start + 2, stop=m.stop + 2)
                        for m in (first, second)
                    ],
                ],
            )
            self.assertEqual((tune.rounds, tune.marks), (2, [first, second]))

    def test_rounds_stay_whole(self):
        self.assert_form(Tune(1, [Mark(1, 0, HALF), Mark(1, HALF, 1)]), 1, ["1 0 1/2 0 1/2", "1 1/2 1 1/2 1"])
        halves = [Mark(1, Moment(k, 2), Moment(k + 1, 2)) for k in range(8)]
        self.assert_form(Tune(4, halves), 1, ["1 0 1/2 0 1/2", "1 1/2 1 1/2 1"])
        self.assert_form(
            Tune(3, [Mark(1, 0, 1), Mark(1, Moment(3, 2), Moment(5, 2))]), 3, ["1 0 1 0 1", "1 3/2 5/2 3/2 5/2"]
        )

    def test_the_order_of_marks(self):
        ordered = [
            Mark(9, 0, 5, stop=1),
            Mark(0, -1, 2, start=0),
            Mark(0, 0, 2),
            Mark(0, 0, 3, stop=2),
            Mark(1, 0, 3, stop=2),
            Mark(-1, HALF, 1),
            Mark(0, HALF, 1),
        ]
        for shift in range(len(ordered)):
            turned = ordered[shift:] + ordered[:shift]
            self.assertEqual(Tune(8, turned).marks, ordered)
            self.assertEqual(Tune(8, turned[::-1]).marks, ordered)

    def test_no_rounds(self):
        for rounds in (0, -1, -LONG):
            for marks in ([], [Mark(1, 0, 1)]):
                with self.assertRaises(NoRounds) as caught:
                    Tune(rounds, marks)
                self.assertEqual(caught.exception.rounds, rounds)

    def test_arguments(self):
        marks = [Mark(2, 0, 1), Mark(1, 0, 3, start=1), Mark(1, 0, 3, stop=2)]
        before = copied(marks)
        tune = Tune(5, marks)
        self.assertEqual(marks, before)
        form = told(tune.marks)
        marks.append(Mark(3, 0, 1))
        del marks[0]
        self.assert_form(tune, 5, form)
        self.assert_form(Tune(rounds=2, marks=[Mark(1, 0, 1)]), 2, ["1 0 1 0 1"])

    def test_empty_is_new_each_time(self):
        Tune.empty().marks.append(Mark(1, 0, 1))
        self.assertEqual(Tune.empty().marks, [])


class Readings(unittest.TestCase):
    def test_parts_are_cut(self):
        tune = Tune(2, [Mark(60, 0, Moment(3, 2))])
        self.assertEqual(told(tune(0, 2)), ["60 0 3/2 0 3/2"])
        self.assertEqual(told(tune(HALF, 1)), ["60 0 3/2 1/2 1"])
        self.assertEqual(told(tune(Moment(3, 2), 2)), [])
        self.assertEqual(told(tune(Moment(3, 2), Moment(9, 4))), ["60 2 7/2 2 9/4"])
        self.assertEqual(told(tune(-2, 0)), ["60 -2 -1/2 -2 -1/2"])
        self.assertEqual(told(tune(-1, 1)), ["60 -2 -1/2 -1 -1/2", "60 0 3/2 0 1"])

    def test_many_at_once(self):
        tune = Tune(1, [Mark(1, 0, Moment(5, 2))])
        self.assertEqual(told(tune(0, 1)), ["1 -2 1/2 0 1/2", "1 -1 3/2 0 1", "1 0 5/2 0 1"])

    def test_the_order_of_readings(self):
        tune = Tune(4, [Mark(2, 0, 1), Mark(1, 0, 1), Mark(1, 0, 2), Mark(1, -1, 1), Mark(0, 1, 2)])
        expected = ["1 -1 1 0 1", "1 0 1 0 1", "2 0 1 0 1", "1 0 2 0 2", "0 1 2 1 2"]
        self.assertEqual(told(tune(0, 3)), expected)

    def test_empty_stretches(self):
        tune = Tune(1, [Mark(1, 0, 1)])
        for begin, end in ((0, 0), (HALF, HALF), (1, 0), (5, -5), (Moment(3, 4), HALF), (HALF, Moment(2, 4))):
            self.assertEqual(tune(begin, end), [])
        self.assertEqual(Tune.empty()(-60, 60), [])

    def test_integers_and_moments(self):
        tune = Tune(3, [Mark(1, -1, 1), Mark(2, 1, 2)])
        for begin, end in ((0, 3), (-4, 7)):
            expected = told(tune(begin, end))
            self.assertEqual(told(tune(Moment(begin), end)), expected)
            self.assertEqual(told(tune(begin, Moment(end))), expected)
            self.assertEqual(told(tune(Moment(begin), Moment(end))), expected)

    def test_far_away(self):
        tune = Tune(3, [Mark(1, 0, 1)])
        far = 3 * LONG
        self.assertEqual(told(tune(far, far + 3)), [f"1 {far} {far + 1} {far} {far + 1}"])
        self.assertEqual(told(tune(-far - 2, -far)), [])
        self.assertEqual(len(tune(-far, 120 - far)), 40)

    def test_readings_are_new_lists(self):
        tune = Tune(1, [Mark(1, 0, 1)])
        tune(0, 3).clear()
        self.assertEqual(len(tune(0, 3)), 3)
        self.assertIsNot(tune(0, 1), tune(0, 1))
        self.assertIsNot(tune(0, 1), tune.marks)

    def test_readings_show_what_was_passed(self):
        for seed in range(60):
            die = dice(seed)
            rounds, marks = random_tune(die)
            shown = tune_pattern(rounds, marks)
            tune = Tune(rounds, marks)
            low = random_time(die, -9, 9)
            reading = tune(moment(low), moment(low + 7))
            for _ in range(10):
                t = low + random_time(die, 0, 7)
                self.assertEqual(reading_at(reading, t), shown(t), seed)


class Equality(unittest.TestCase):
    def assert_same(self, first, second):
        self.assertIs(first == second, True)
        self.assertIs(first != second, False)

    def assert_different(self, first, second):
        self.assertIs(first == second, False)
        self.assertIs(second == first, False)
        self.assertIs(first != second, True)

    def test_same(self):
        self.assert_same(Tune(1, []), Tune.empty())
        self.assert_same(Tune(1, [Mark(1, 0, 1)]), Tune(3, [Mark(1, k, k + 1) for k in range(3)]))
        self.assert_same(Tune(2, [Mark(1, 0, 1), Mark(2, 0, 1)]), Tune(2, [Mark(2, 4, 5), Mark(1, -2, -1)]))

    def test_different(self):
        tune = Tune(2, [Mark(1, 0, 2, stop=1)])
        for other in (
            Tune(1, [Mark(1, 0, 2, stop=1)]),
            Tune(2, [Mark(2, 0, 2, stop=1)]),
            Tune(2, [Mark(1, 0, 1)]),
            Tune(2, [Mark(1, 0, 2)]),
            Tune(2, [Mark(1, 1, 3, stop=2)]),
            Tune(2, [Mark(1, -1, 2, start=0, stop=1)]),
            Tune(2, [Mark(1, 0, 2, stop=1), Mark(1, 5, 6)]),
            Tune.empty(),
        ):
            self.assert_different(tune, other)

    def test_a_tune_is_nothing_else(self):
        for thing in (1, "x", None, [Mark(1, 0, 1)], Mark(1, 0, 1)):
            self.assert_different(Tune(1, [Mark(1, 0, 1)]), thing)


class Contains(unittest.TestCase):
    def test_parts_of_what_is_shown(self):
        tune = Tune(2, [Mark(1, 0, 3, stop=2)])
        for mark in (
            Mark(1, 0, 3, stop=2),
            Mark(1, 0, 3, stop=1),
            Mark(1, 0, 3, start=1, stop=2),
            Mark(1, 0, 3, start=HALF, stop=Moment(3, 2)),
            Mark(1, 2, 5, start=2, stop=3),
            Mark(1, -4, -1, start=-3, stop=-2),
            Mark(1, 2 * LONG, 2 * LONG + 3, stop=2 * LONG + 1),
        ):
            self.assertIs(mark in tune, True)
            self.assertIs(mark not in tune, False)

    def test_what_is_not_shown(self):
        tune = Tune(2, [Mark(1, 0, 3, stop=2), Mark(5, 0, 1)])
        for mark in (
            Mark(1, 0, 3),
            Mark(1, 0, 3, start=2),
            Mark(1, 0, 3, start=1, stop=Moment(5, 2)),
            Mark(1, 1, 4, stop=2),
            Mark(1, 0, 2, stop=1),
            Mark(1, 0, 4, stop=1),
            Mark(2, 0, 3, stop=1),
            Mark(5, 1, 2),
            Mark(5, HALF, Moment(3, 2)),
        ):
            self.assertIs(mark in tune, False)
        self.assertIs(Mark(1, 0, 1) in Tune.empty(), False)

    def test_joined_parts_and_gaps(self):
        joined = Tune(4, [Mark(1, 0, 3, stop=2), Mark(1, 0, 3, start=2)])
        self.assertIs(Mark(1, 0, 3) in joined, True)
        gap = Tune(4, [Mark(1, 0, 3, stop=1), Mark(1, 0, 3, start=2)])
        self.assertIs(Mark(1, 0, 3) in gap, False)
        self.assertIs(Mark(1, 4, 7, start=6) in gap, True)

    def test_arguments_stay(self):
        mark = Mark(1, 5, 6)
        self.assertTrue(mark in Tune(1, [Mark(1, 0, 1)]))
        self.assertEqual(told([mark]), ["1 5 6 5 6"])


class Operators(unittest.TestCase):
    def setUp(self):
        self.low = Tune(2, [Mark(1, 0, 2, stop=1)])
        self.high = Tune(2, [Mark(1, 0, 2, start=HALF)])

    def assert_tune(self, tune, rounds, marks):
        self.assertIs(type(tune), Tune)
        self.assertEqual((tune.rounds, told(tune.marks)), (rounds, marks))

    def test_two_tunes(self):
        self.assert_tune(self.low | self.high, 2, ["1 0 2 0 2"])
        self.assert_tune(self.low & self.high, 2, ["1 0 2 1/2 1"])
        self.assert_tune(self.low - self.high, 2, ["1 0 2 0 1/2"])
        self.assert_tune(self.high - self.low, 2, ["1 0 2 1 2"])
        self.assert_tune(self.low ^ self.high, 2, ["1 0 2 0 1/2", "1 0 2 1 2"])

    def test_two_tunes_of_different_rounds(self):
        often, seldom = Tune(1, [Mark(1, 0, 1)]), Tune(2, [Mark(1, 0, 1)])
        self.assertEqual(often | seldom, often)
        self.assertEqual(often & seldom, seldom)
        self.assertEqual(seldom - often, Tune.empty())
        self.assert_tune(often - seldom, 2, ["1 1 2 1 2"])
        self.assert_tune(often ^ seldom, 2, ["1 1 2 1 2"])
        self.assertEqual((Tune(2, [Mark(1, 0, 1)]) | Tune(3, [Mark(1, 0, 1)])).rounds, 6)

    def test_nothing(self):
        empty = Tune.empty()
        self.assertEqual([self.low | empty, self.low - empty, self.low ^ empty], [self.low] * 3)
        self.assertEqual([self.low & empty, empty - self.low, self.low ^ self.low], [empty] * 3)
        self.assertEqual([empty << 1, empty * 3, empty // 7, -empty, empty + 2], [empty] * 5)
        self.assertEqual(empty * Moment(LONG + 1, LONG - 1), empty)

    def test_tones(self):
        self.assert_tune(self.low + 5, 2, ["6 0 2 0 1"])
        self.assert_tune(5 + self.low, 2, ["6 0 2 0 1"])
        self.assert_tune(self.low + -LONG, 2, [f"{1 - LONG} 0 2 0 1"])
        self.assertEqual(self.low + 0, self.low)

    def test_shifts(self):
        tune = Tune(2, [Mark(1, 0, 1)])
        self.assert_tune(tune << HALF, 2, ["1 3/2 5/2 3/2 5/2"])
        self.assert_tune(tune >> HALF, 2, ["1 1/2 3/2 1/2 3/2"])
        self.assert_tune(tune << 1, 2, ["1 1 2 1 2"])
        self.assert_tune(tune << -1, 2, ["1 1 2 1 2"])
        self.assert_tune(tune >> Moment(1), 2, ["1 1 2 1 2"])
        self.assertEqual([tune << 2, tune >> 60, tune << 0, tune << -60], [tune] * 4)

    def test_paces(self):
        tune = Tune(2, [Mark(1, 0, 1)])
        self.assert_tune(tune * 2, 1, ["1 0 1/2 0 1/2"])
        for product in (2 * tune, Moment(2) * tune, tune * Moment(2), tune // HALF):
            self.assertEqual(product, tune * 2)
        self.assert_tune(tune // 2, 4, ["1 0 2 0 2"])
        self.assertEqual(tune * HALF, tune // 2)
        self.assert_tune(tune * Moment(3, 2), 4, ["1 0 2/3 0 2/3", "1 4/3 2 4/3 2", "1 8/3 10/3 8/3 10/3"])
        self.assertEqual(tune * 1, tune)
        self.assertEqual(tune * Moment(7, 3) // Moment(7, 3), tune)

    def test_mirrors(self):
        self.assert_tune(-Tune(1, [Mark(1, Moment(1, 4), HALF)]), 1, ["1 1/2 3/4 1/2 3/4"])
        self.assert_tune(-Tune(2, [Mark(5, HALF, Moment(3, 2))]), 2, ["5 3/2 5/2 3/2 5/2"])
        self.assert_tune(-Tune(2, [Mark(5, 0, 2)]), 2, ["5 1 3 1 3"])
        self.assert_tune(-Tune(3, [Mark(5, 0, 2)]), 3, ["5 -1 1 0 1", "5 1 3 1 2"])
        self.assertEqual(-(-self.low), self.low)

    def test_bad_paces(self):
        for pace in (0, -1, -LONG, Moment(0), Moment(-1, 60)):
            for lead in (lambda: self.low * pace, lambda: pace * self.low, lambda: self.low // pace):
                with self.assertRaises(BadPace) as caught:
                    lead()
                self.assertEqual(caught.exception.pace, pace)

    def test_other_operands(self):
        tune = self.low
        for wrong in (
            lambda: tune | 1,
            lambda: tune & None,
            lambda: tune - 1,
            lambda: tune ^ [],
            lambda: tune + tune,
            lambda: tune + HALF,
            lambda: HALF + tune,
            lambda: 1 << tune,
            lambda: 1 // tune,
            lambda: tune * tune,
            lambda: 1 - tune,
        ):
            self.assertRaises(TypeError, wrong)

    def test_long_marks(self):
        long = Tune(1, [Mark(1, 0, LONG)])
        part = Tune(1, [Mark(1, 0, LONG, start=5, stop=7)])
        self.assertEqual(long | part, long)
        self.assertEqual(long & part, part)
        self.assert_tune(long - part, 1, [f"1 0 {LONG} 0 5", f"1 -7 {LONG - 7} 0 {LONG - 7}"])
        self.assert_tune(long << Moment(1, 3), 1, [f"1 2/3 {LONG + Moment(2, 3)} 2/3 {LONG + Moment(2, 3)}"])

    def test_operands_stay(self):
        low, high = told(self.low.marks), told(self.high.marks)
        self.low | self.high, self.low ^ self.high, -self.low, self.low * 2, self.low << HALF, self.low + 1
        self.assertEqual((self.low.rounds, told(self.low.marks)), (2, low))
        self.assertEqual((self.high.rounds, told(self.high.marks)), (2, high))

    def test_operators_are_those_of_pieces(self):
        trees = {
            "or": lambda a, b: a | b,
            "and": lambda a, b: a & b,
            "minus": lambda a, b: a - b,
            "xor": lambda a, b: a ^ b,
        }
        for seed in range(40):
            die = dice(seed)
            x, y = Tune(*random_tune(die)), Tune(*random_tune(die))
            for kind in trees:
                piece = build((kind, ("hole", "x"), ("hole", "y")))
                self.assertEqual(trees[kind](x, y), piece.filled(x=x, y=y))
            piece = build(("hole", "x"))
            for lead in (
                lambda a: -a,
                lambda a: a << Moment(2, 3),
                lambda a: a >> 3,
                lambda a: a * Moment(3, 2),
                lambda a: a // 3,
                lambda a: 2 + a,
            ):
                self.assertEqual(lead(x), lead(piece).filled(x=x))


class LargeTunes(unittest.TestCase):
    def test_large(self):
        marks = [Mark(k % 7, Moment(k * 48, 500), Moment(k * 48 + k % 90 + 1, 500)) for k in range(500)]
        tune = Tune(48, marks)
        self.assertEqual((tune.rounds, len(tune)), (48, 500))
        self.assertEqual(len(tune(0, 120)), 1250 + len([m for m in tune.marks if m.stop > 48]))
        self.assertEqual(tune << 48, tune)
        self.assertEqual((tune << Moment(1, 7)) >> Moment(1, 7), tune)
        self.assertEqual((tune | (tune + 7)) - (tune + 7), tune)
        self.assertTrue(all(mark in tune for mark in marks))

    def test_long_numbers(self):
        die = dice(1)
        times = [Moment(die.randrange(10**59), 10**59 + die.randrange(10**59)) for _ in range(100)]
        tune = Tune(5, [Mark(k, time, time + times[k - 1] + 1) for k, time in enumerate(times)])
        self.assertEqual(len(tune), 100)
        self.assertEqual((tune << times[3]) >> times[3], tune)
        self.assertEqual((tune | -tune) & tune, tune)


if __name__ == "__main__":
    unittest.main()
