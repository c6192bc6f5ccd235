"""anytune/marks.py: points 5 and 6, as far as they speak of marks and of Mark objects."""

import itertools
import unittest

from anytune.errors import NoMark
from anytune.marks import Mark
from anytune.moments import Moment

NAMES = ["tone", "begin", "end", "start", "stop"]


def values(mark):
    return [getattr(mark, name) for name in NAMES]


class MarkAttributes(unittest.TestCase):
    def assert_mark(self, mark, tone, *times):
        self.assertIs(type(mark), Mark)
        self.assertEqual(mark.tone, tone)
        for name, time in zip(NAMES[1:], times, strict=True):
            self.assertIs(type(getattr(mark, name)), Moment, name)
            self.assertEqual(getattr(mark, name), time, name)

    def test_start_and_stop_left_out(self):
        self.assert_mark(Mark(60, 0, 2), 60, 0, 2, 0, 2)
        self.assert_mark(Mark(60, 0, 2, start=None, stop=None), 60, 0, 2, 0, 2)
        begin, end = Moment(-1, 2), Moment(1, 3)
        self.assert_mark(Mark(-1, begin, end), -1, begin, end, begin, end)

    def test_one_of_start_and_stop(self):
        self.assert_mark(Mark(60, 0, 3, start=1), 60, 0, 3, 1, 3)
        self.assert_mark(Mark(60, 0, 3, stop=1), 60, 0, 3, 0, 1)
        self.assert_mark(Mark(60, -3, 3, start=0), 60, -3, 3, 0, 3)
        self.assert_mark(Mark(60, -3, 3, stop=0), 60, -3, 3, -3, 0)

    def test_both_start_and_stop(self):
        self.assert_mark(Mark(60, 0, 3, start=1, stop=2), 60, 0, 3, 1, 2)
        self.assert_mark(Mark(60, 0, 3, start=0, stop=3), 60, 0, 3, 0, 3)
        self.assert_mark(Mark(60, -3, 3, start=Moment(-1, 2), stop=0), 60, -3, 3, Moment(-1, 2), 0)

    def test_integers_and_moments_mixed(self):
        self.assert_mark(Mark(0, Moment(0), 2, start=Moment(2, 4), stop=1), 0, 0, 2, Moment(1, 2), 1)
        self.assert_mark(Mark(0, -2, Moment(7, 3), start=-1, stop=Moment(7, 3)), 0, -2, Moment(7, 3), -1, Moment(7, 3))

    def test_long_numbers(self):
        tone, begin, end = -(10**60 - 1), Moment(-(10**60) + 1, 10**59 + 1), 10**60 - 1
        self.assert_mark(Mark(tone, begin, end), tone, begin, end, begin, end)
        short = Moment(1, 10**60 - 1)
        self.assert_mark(Mark(1, 0, short), 1, 0, short, 0, short)

    def test_arguments_by_name(self):
        self.assert_mark(Mark(tone=5, begin=0, end=4, start=1, stop=3), 5, 0, 4, 1, 3)

    def test_start_and_stop_are_not_passed_by_position(self):
        self.assertRaises(TypeError, Mark, 60, 0, 3, 1)
        self.assertRaises(TypeError, Mark, 60, 0, 3, 1, 2)

    def test_passed_moments_stay_as_they_were(self):
        times = [Moment(0), Moment(7, 2), Moment(1, 2), Moment(3, 2)]
        Mark(1, times[0], times[1], start=times[2], stop=times[3])
        self.assertEqual([(time.top, time.bottom) for time in times], [(0, 1), (7, 2), (1, 2), (3, 2)])


class NoMarks(unittest.TestCase):
    def assert_no_mark(self, tone, begin, end, **part):
        with self.assertRaises(NoMark, msg=(tone, begin, end, part)) as caught:
            Mark(tone, begin, end, **part)
        self.assertIs(caught.exception.tone, tone)
        self.assertIs(caught.exception.begin, begin)
        self.assertIs(caught.exception.end, end)

    def test_begin_equal_to_end(self):
        self.assert_no_mark(60, 1, 1)
        self.assert_no_mark(60, Moment(1, 2), Moment(2, 4))
        self.assert_no_mark(60, 1, Moment(1))
        self.assert_no_mark(60, 1, 1, start=1, stop=1)

    def test_end_before_begin(self):
        self.assert_no_mark(60, 1, 0)
        self.assert_no_mark(-5, Moment(1, 2), Moment(1, 3))
        self.assert_no_mark(60, 3, 0, start=1, stop=2)

    def test_start_before_begin(self):
        self.assert_no_mark(60, 0, 2, start=-1)
        self.assert_no_mark(60, Moment(1, 2), 2, start=Moment(1, 3), stop=1)

    def test_start_equal_to_stop(self):
        self.assert_no_mark(60, 0, 2, start=1, stop=1)
        self.assert_no_mark(60, 0, 2, start=2)
        self.assert_no_mark(60, 0, 2, stop=0)
        self.assert_no_mark(60, 0, 2, start=Moment(2, 4), stop=Moment(1, 2))

    def test_stop_before_start(self):
        self.assert_no_mark(60, 0, 3, start=2, stop=1)
        self.assert_no_mark(60, 0, 3, start=4)
        self.assert_no_mark(60, 0, 3, stop=-1)

    def test_stop_behind_end(self):
        self.assert_no_mark(60, 0, 2, stop=3)
        self.assert_no_mark(60, 0, Moment(1, 3), stop=Moment(1, 2))

    def test_every_order_of_small_times(self):
        for begin, end, start, stop in itertools.product(range(4), repeat=4):
            if begin < end and begin <= start < stop <= end:
                self.assertEqual(values(Mark(7, begin, end, start=start, stop=stop)), [7, begin, end, start, stop])
            else:
                self.assert_no_mark(7, begin, end, start=start, stop=stop)


class Equality(unittest.TestCase):
    def assert_same(self, first, second):
        self.assertIs(first == second, True)
        self.assertIs(second == first, True)
        self.assertIs(first != second, False)
        self.assertIs(second != first, False)

    def assert_different(self, first, second):
        self.assertIs(first == second, False)
        self.assertIs(second == first, False)
        self.assertIs(first != second, True)
        self.assertIs(second != first, True)

    def test_same_marks(self):
        self.assert_same(Mark(60, 0, 3), Mark(60, 0, 3))
        self.assert_same(Mark(60, 0, 3, start=1, stop=2), Mark(60, 0, 3, start=1, stop=2))
        self.assert_same(Mark(60, 0, 3), Mark(60, 0, 3, start=0, stop=3))
        mark = Mark(60, Moment(1, 2), 1)
        self.assert_same(mark, mark)

    def test_integers_and_moments_are_the_same(self):
        given = Mark(60, Moment(0), Moment(6, 2), start=Moment(1), stop=Moment(2))
        self.assert_same(Mark(60, 0, 3, start=1, stop=2), given)
        self.assert_same(Mark(60, 0, Moment(2, 4)), Mark(60, Moment(0, 7), Moment(1, 2)))

    def test_one_attribute_differs(self):
        mark = Mark(60, 0, 10, start=2, stop=8)
        self.assert_different(mark, Mark(61, 0, 10, start=2, stop=8))
        self.assert_different(mark, Mark(60, 1, 10, start=2, stop=8))
        self.assert_different(mark, Mark(60, 0, 9, start=2, stop=8))
        self.assert_different(mark, Mark(60, 0, 10, start=3, stop=8))
        self.assert_different(mark, Mark(60, 0, 10, start=2, stop=7))
        self.assert_different(mark, Mark(60, 0, 10, start=Moment(5, 2), stop=8))
        self.assert_different(mark, Mark(60, Moment(-1, 60), 10, start=2, stop=8))

    def test_a_mark_is_nothing_else(self):
        mark = Mark(60, 0, 1)
        for thing in (60, "60", None, [60, 0, 1, 0, 1], (60, 0, 1, 0, 1), Moment(60), object()):
            self.assert_different(mark, thing)

    def test_marks_stay_as_they_were(self):
        first, second = Mark(60, 0, 3, start=1), Mark(61, 0, 3, stop=2)
        first == second, first != second, repr(first)
        self.assertEqual(values(first), [60, 0, 3, 1, 3])
        self.assertEqual(values(second), [61, 0, 3, 0, 2])


if __name__ == "__main__":
    unittest.main()
