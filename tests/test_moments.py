"""anytune/moments.py: points 2 to 4. Python's own fractions say what is right."""

import itertools
import math
import re
import unittest
from fractions import Fraction

from anytune.errors import NoMoment, NoText
from anytune.moments import Moment

DIGITS_40 = int("1234567890" * 4)
DIGITS_60 = int("9876543210" * 6)
NINES_60 = 10**60 - 1

# Whole, broken, negative, small and long; some a multiple of others.
FRACTIONS = [
    Fraction(0),
    Fraction(1),
    Fraction(-1),
    Fraction(2),
    Fraction(-3),
    Fraction(60),
    Fraction(1, 2),
    Fraction(-1, 2),
    Fraction(3, 2),
    Fraction(-7, 2),
    Fraction(2, 3),
    Fraction(-5, 6),
    Fraction(1, 60),
    Fraction(DIGITS_40),
    Fraction(-DIGITS_60, DIGITS_40 + 1),
    Fraction(DIGITS_40 + 7, DIGITS_60),
    Fraction(NINES_60 - 1, NINES_60),
]
INTEGERS = [0, 1, -1, 2, -2, 3, -7, 60, DIGITS_40, -NINES_60]


def moment(fraction):
    return Moment(fraction.numerator, fraction.denominator)


def parts(value):
    return (value.top, value.bottom)


class MomentCase(unittest.TestCase):
    def assert_moment(self, found, expected, message=None):
        """The object is the Moment of a fraction, in lowest terms."""
        self.assertIs(type(found), Moment, message)
        self.assertIs(type(found.top), int, message)
        self.assertIs(type(found.bottom), int, message)
        expected = Fraction(expected)
        self.assertEqual(parts(found), (expected.numerator, expected.denominator), message)

    def operand_pairs(self):
        """Pairs of operands with their fractions: two moments, or a moment and an integer on either side."""
        for left, right in itertools.product(FRACTIONS, FRACTIONS):
            yield moment(left), moment(right), left, right
        for left, right in itertools.product(FRACTIONS, INTEGERS):
            yield moment(left), right, left, Fraction(right)
            yield right, moment(left), Fraction(right), left


class LowestTerms(MomentCase):
    def test_lowest_terms_and_positive_bottom(self):
        for top, bottom, expected in [
            (6, 4, (3, 2)),
            (6, -4, (-3, 2)),
            (-6, 4, (-3, 2)),
            (-6, -4, (3, 2)),
            (3, 2, (3, 2)),
            (1, -1, (-1, 1)),
            (-8, -2, (4, 1)),
            (7, 7, (1, 1)),
            (1, 60, (1, 60)),
            (-59, 60, (-59, 60)),
        ]:
            self.assertEqual(parts(Moment(top, bottom)), expected, (top, bottom))

    def test_zero_is_0_over_1(self):
        for bottom in (1, -1, 2, -60, DIGITS_40, -DIGITS_60):
            self.assertEqual(parts(Moment(0, bottom)), (0, 1), bottom)
        self.assertEqual(parts(Moment(0)), (0, 1))

    def test_bottom_left_out(self):
        for top in INTEGERS:
            self.assertEqual(parts(Moment(top)), (top, 1))

    def test_grid_of_small_fractions(self):
        for top in range(-40, 41):
            for bottom in range(-40, 41):
                if bottom:
                    self.assert_moment(Moment(top, bottom), Fraction(top, bottom), (top, bottom))

    def test_long_numbers(self):
        self.assertEqual(len(str(DIGITS_40)), 40)
        self.assertEqual(len(str(DIGITS_60)), 60)
        for top, bottom in itertools.product([DIGITS_40, -DIGITS_60, NINES_60, 10**59, 6], repeat=2):
            self.assert_moment(Moment(top, bottom), Fraction(top, bottom), (top, bottom))
            self.assert_moment(Moment(top * 6, -bottom * 4), Fraction(top * 6, -bottom * 4), (top, bottom))

    def test_arguments_by_name(self):
        self.assertEqual(parts(Moment(top=2, bottom=-6)), (-1, 3))

    def test_no_moment(self):
        for top in INTEGERS:
            with self.assertRaises(NoMoment) as caught:
                Moment(top, 0)
            self.assertEqual((caught.exception.top, caught.exception.bottom), (top, 0))


class Operators(MomentCase):
    def test_sum_difference_product(self):
        for a, b, left, right in self.operand_pairs():
            self.assert_moment(a + b, left + right, (a, b))
            self.assert_moment(a - b, left - right, (a, b))
            self.assert_moment(a * b, left * right, (a, b))

    def test_in_place_sum_and_difference(self):
        for a, b, left, right in self.operand_pairs():
            total = a
            total += b
            self.assert_moment(total, left + right, (a, b))
            total = a
            total -= b
            self.assert_moment(total, left - right, (a, b))

    def test_quotient_and_rest(self):
        for a, b, left, right in self.operand_pairs():
            if right:
                quotient = a // b
                self.assertIs(type(quotient), int)
                self.assertEqual(quotient, math.floor(left / right), (a, b))
                self.assert_moment(a % b, left - right * math.floor(left / right), (a, b))

    def test_quotient_and_rest_of_told_operands(self):
        for left, right, quotient, rest in [
            (Moment(-7, 2), 2, -2, Moment(1, 2)),
            (Moment(7, 2), -2, -2, Moment(-1, 2)),
            (Moment(-7, 2), -2, 1, Moment(-3, 2)),
            (Moment(7, 2), Moment(1, 2), 7, Moment(0)),
            (Moment(-7, 2), Moment(1, 2), -7, Moment(0)),
            (Moment(7, 2), Moment(-1, 2), -7, Moment(0)),
            (3, Moment(2, 3), 4, Moment(1, 3)),
            (-3, Moment(2, 3), -5, Moment(1, 3)),
            (3, Moment(-2, 3), -5, Moment(-1, 3)),
            (Moment(0), Moment(-2, 3), 0, Moment(0)),
        ]:
            self.assertEqual(left // right, quotient, (left, right))
            self.assertEqual(parts(left % right), parts(rest), (left, right))

    def test_over(self):
        for left, right in itertools.product(FRACTIONS, FRACTIONS):
            if right:
                self.assert_moment(moment(left).over(moment(right)), left / right, (left, right))
        for left, right in itertools.product(FRACTIONS, INTEGERS):
            if right:
                self.assert_moment(moment(left).over(right), left / right, (left, right))

    def test_division_by_zero(self):
        for fraction in FRACTIONS:
            a = moment(fraction)
            for zero in (0, Moment(0), Moment(0, -5), Moment(1, 2) - Moment(1, 2)):
                self.assertRaises(ZeroDivisionError, lambda: a // zero)
                self.assertRaises(ZeroDivisionError, lambda: a % zero)
                self.assertRaises(ZeroDivisionError, a.over, zero)
        for integer in INTEGERS:
            self.assertRaises(ZeroDivisionError, lambda: integer // Moment(0))
            self.assertRaises(ZeroDivisionError, lambda: integer % Moment(0))

    def test_power(self):
        for fraction in FRACTIONS:
            for exponent in range(61):
                self.assert_moment(moment(fraction) ** exponent, fraction**exponent, (fraction, exponent))

    def test_power_0_is_1(self):
        for fraction in FRACTIONS:
            self.assert_moment(moment(fraction) ** 0, 1)

    def test_minus_abs_bool(self):
        for fraction in FRACTIONS:
            self.assert_moment(-moment(fraction), -fraction)
            self.assert_moment(abs(moment(fraction)), abs(fraction))
            self.assertIs(bool(moment(fraction)), fraction != 0)

    def test_operands_stay_as_they_were(self):
        for a, b, left, right in self.operand_pairs():
            a + b, a - b, a * b, a == b, a != b, a < b, a <= b, a > b, a >= b
            if right:
                a // b, a % b
                if isinstance(a, Moment):
                    a.over(b)
            if isinstance(a, Moment):
                -a, abs(a), bool(a), a**3, str(a), repr(a)
            total = a
            total += b
            total = a
            total -= b
            for operand, fraction in ((a, left), (b, right)):
                if isinstance(operand, Moment):
                    self.assert_moment(operand, fraction)
                else:
                    self.assertEqual(operand, fraction)


class Asked:
    """Takes a moment on the left, as the pieces of the document do."""

    def __rmul__(self, other):
        return ("asked", other)

    __radd__ = __rsub__ = __rfloordiv__ = __rmod__ = __rpow__ = __rmul__
    __lt__ = __le__ = __gt__ = __ge__ = __rmul__


class OtherObjects(unittest.TestCase):
    def signs(self, a, b):
        return [
            lambda: a + b,
            lambda: a - b,
            lambda: a * b,
            lambda: a // b,
            lambda: a % b,
            lambda: a**b,
            lambda: a < b,
            lambda: a <= b,
            lambda: a > b,
            lambda: a >= b,
        ]

    def test_an_object_that_takes_moments_is_asked(self):
        a = Moment(1, 2)
        for number, sign in enumerate(self.signs(a, Asked())):
            self.assertEqual(sign(), ("asked", a), number)

    def test_an_object_that_does_not_is_refused(self):
        for thing in (None, "1", [1], (1, 2), object()):
            for sign in self.signs(Moment(3, 2), thing):
                self.assertRaises(TypeError, sign)


class Comparisons(MomentCase):
    def test_all_six(self):
        for a, b, left, right in self.operand_pairs():
            self.assertIs(a == b, left == right, (a, b))
            self.assertIs(a != b, left != right, (a, b))
            self.assertIs(a < b, left < right, (a, b))
            self.assertIs(a <= b, left <= right, (a, b))
            self.assertIs(a > b, left > right, (a, b))
            self.assertIs(a >= b, left >= right, (a, b))

    def test_near_neighbours(self):
        low, high = Moment(NINES_60 - 1, NINES_60), Moment(NINES_60, NINES_60)
        self.assertTrue(low < high and low < 1 and 0 < low and high == 1)
        self.assertFalse(low == high or low >= 1 or low == 1)

    def test_equal_when_made_differently(self):
        self.assertEqual(Moment(2, 4), Moment(-1, -2))
        self.assertEqual(Moment(4, 2), 2)
        self.assertEqual(2, Moment(4, 2))
        self.assertNotEqual(Moment(1, 2), 1)
        self.assertNotEqual(1, Moment(1, 2))
        self.assertNotEqual(Moment(2, 3), Moment(2, 5))
        self.assertNotEqual(Moment(2, 3), Moment(4, 3))

    def test_equal_to_nothing_else(self):
        for a in (Moment(0), Moment(1), Moment(1, 2), Moment(-3)):
            things = [str(a), "", [], [a], (), (a.top, a.bottom), None, {}, {"top": 1}, 1.0, Fraction(1), object()]
            for thing in things:
                self.assertIs(a == thing, False, thing)
                self.assertIs(thing == a, False, thing)
                self.assertIs(a != thing, True, thing)
                self.assertIs(thing != a, True, thing)


class Texts(MomentCase):
    def assert_no_text(self, text):
        with self.assertRaises(NoText, msg=repr(text)) as caught:
            Moment.read(text)
        self.assertEqual(caught.exception.text, text)

    def test_texts_of_moments(self):
        for top, bottom, text in [
            (0, 5, "0"),
            (1, 1, "1"),
            (-1, 1, "-1"),
            (120, 1, "120"),
            (6, -4, "-3/2"),
            (1, 10, "1/10"),
            (-10, 3, "-10/3"),
            (NINES_60, 10**59, "9" * 60 + "/1" + "0" * 59),
            (-DIGITS_60, 1, "-" + "9876543210" * 6),
            (10**60, 1, "1" + "0" * 60),
            (1, -(10**60), "-1/1" + "0" * 60),
        ]:
            self.assertEqual(str(Moment(top, bottom)), text)
            self.assertEqual(f"{Moment(top, bottom)}", text)

    def test_shown_in_lists_and_errors(self):
        self.assertEqual(repr([Moment(6, -4), Moment(2)]), "[Moment(-3, 2), Moment(2, 1)]")

    def test_read_gives_the_moment_back(self):
        small = [Fraction(top, bottom) for top in range(-25, 26) for bottom in range(1, 26)]
        for fraction in FRACTIONS + small:
            self.assertEqual(str(moment(fraction)), str(fraction))
            self.assert_moment(Moment.read(str(fraction)), fraction)

    def test_texts_of_powers(self):
        for fraction in FRACTIONS:
            self.assertEqual(str(moment(fraction) ** 60), str(fraction**60))

    def test_texts_beyond_the_digits_that_python_writes(self):
        text = str(Moment(-(10**99), 3) ** 61)
        self.assertEqual(text[:2], "-1")
        self.assertEqual(text[2:].partition("/")[0], "0" * (99 * 61))
        self.assertEqual(text.partition("/")[2], str(3**61))

    def test_60_digits_are_read_and_61_are_not(self):
        longest = "9" * 60
        for text in (longest, "-" + longest, "1/" + longest, "-1/" + longest, "8" * 59 + "9/" + longest):
            self.assertEqual(str(Moment.read(text)), text)
        for text in ("1" * 61, "-" + "1" * 61, "1/" + "1" * 61, "-1/" + "1" * 61, "1" * 61 + "/2", "1" + "0" * 4999):
            self.assert_no_text(text)

    def test_no_texts(self):
        for text in [
            "",
            "-",
            "/",
            "-/",
            "+1",
            "--1",
            "1-",
            "1/-2",
            "1/+2",
            "-1/-2",
            "-0",
            "-0/1",
            "00",
            "01",
            "-01",
            "01/2",
            "1/02",
            "2/4",
            "-2/4",
            "4/2",
            "1/1",
            "1/0",
            "0/0",
            "0/1",
            "0/2",
            "/2",
            "1/",
            "-/2",
            "1/2/",
            "1//2",
            "1/2/3",
            " 1",
            "1 ",
            "1 /2",
            "1/ 2",
            "- 1",
            "1 2",
            "\t1",
            "1\t",
            "1\n",
            "\n1",
            "1/2\n",
            "1\n/2",
            "1\n2",
            " ",
            "\n",
            "a",
            "1a",
            "0x1",
            "1e3",
            "inf",
            "1_000",
            "1/1_1",
            "1.5",
            "1,5",
            "1:2",
            "(1)",
        ]:
            self.assert_no_text(text)

    def test_every_short_text(self):
        for length in range(6):
            for characters in itertools.product("-012/4 ", repeat=length):
                self.assert_read_like_the_rule("".join(characters))

    def test_every_character_at_every_place(self):
        for character in [*map(chr, range(32, 127)), "\n", "\t"]:
            for text in ("7", "-3/2", "10/21"):
                for place in range(len(text) + 1):
                    self.assert_read_like_the_rule(text[:place] + character + text[place:])

    def assert_read_like_the_rule(self, text):
        shape = re.compile(r"-?(0|[1-9][0-9]*)(/([1-9][0-9]*))?").fullmatch(text)
        if shape and str(Fraction(text)) == text:
            self.assert_moment(Moment.read(text), Fraction(text), text)
        else:
            self.assert_no_text(text)


class Example(unittest.TestCase):
    def test_example_of_the_interface(self):
        found = [str(Moment(6, -4)), str(Moment(1, 2) + 1), Moment(-7, 2) // 2, str(Moment(-7, 2) % 2)]
        self.assertEqual(found, ["-3/2", "3/2", -2, "1/2"])


if __name__ == "__main__":
    unittest.main()
