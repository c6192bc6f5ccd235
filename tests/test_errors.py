"""anytune/errors.py: every class, its attributes and its place among the others."""

import unittest

from anytune import errors
from anytune.moments import Moment

ATTRIBUTES = {
    "NoMoment": ["top", "bottom"],
    "NoText": ["text"],
    "NoMark": ["tone", "begin", "end"],
    "NoRounds": ["rounds"],
    "NoName": ["name"],
    "BadPace": ["pace"],
    "NoWindow": ["begin", "end", "rounds"],
    "NoStep": ["step"],
    "NoTurns": [],
    "Unfilled": ["name"],
    "NoChart": ["line"],
    "NotPlain": [],
    "NoPace": ["hole", "speed"],
    "TooSoon": ["least"],
    "NoStretch": ["until"],
    "OutOfWindow": ["name"],
    "NoMove": ["begin"],
    "Lost": ["start", "stop"],
    "LooksAhead": ["name", "hole"],
    "NoChannel": ["name"],
    "NoSpan": ["span"],
    "Ringed": ["ring"],
}

# Three values each, so that attributes that are mixed up differ.
VALUES = [
    [3, -4, 10**60],
    ["x", "", "two\nlines\t~"],
    [Moment(1, 2), Moment(-7), Moment(10**59, 10**60 - 1)],
    [None, None, None],
    [None, "drum", 0],
    [Moment(0), 5, "a"],
]


def error_classes():
    return [
        thing
        for thing in vars(errors).values()
        if isinstance(thing, type) and issubclass(thing, Exception)
    ]


class ErrorClasses(unittest.TestCase):
    def test_all_classes_are_there_and_no_others(self):
        names = [thing.__name__ for thing in error_classes()]
        self.assertEqual(sorted(names), sorted([*ATTRIBUTES, "AnytuneError"]))
        self.assertEqual(len(ATTRIBUTES), 22)

    def test_all_classes_are_defined_in_errors(self):
        for thing in error_classes():
            self.assertEqual(thing.__module__, "anytune.errors", thing)

    def test_base_class(self):
        self.assertEqual(errors.AnytuneError.__bases__, (ValueError,))

    def test_every_other_class_stands_directly_under_the_base_class(self):
        for name in ATTRIBUTES:
            self.assertEqual(getattr(errors, name).__bases__, (errors.AnytuneError,), name)

    def test_attributes_have_the_values_passed_by_position(self):
        for name, attributes in ATTRIBUTES.items():
            for values in VALUES:
                passed = values[: len(attributes)]
                error = getattr(errors, name)(*passed)
                for attribute, value in zip(attributes, passed):
                    with self.subTest(name=name, attribute=attribute, value=value):
                        self.assertIs(getattr(error, attribute), value)

    def test_wrong_number_of_values(self):
        for name, attributes in ATTRIBUTES.items():
            if attributes:
                with self.subTest(name=name):
                    self.assertRaises(TypeError, getattr(errors, name), *[1] * (len(attributes) - 1))
                    self.assertRaises(TypeError, getattr(errors, name), *[1] * (len(attributes) + 1))

    def test_an_error_is_an_instance_of_its_own_class_and_the_base_class_alone(self):
        for name, attributes in ATTRIBUTES.items():
            for values in VALUES:
                error = getattr(errors, name)(*values[: len(attributes)])
                self.assertIsInstance(error, ValueError)
                found = [thing.__name__ for thing in error_classes() if isinstance(error, thing)]
                self.assertEqual(sorted(found), sorted([name, "AnytuneError"]))

    def test_errors_can_be_raised_and_caught_by_each_of_their_classes(self):
        for name, attributes in ATTRIBUTES.items():
            for caught in (getattr(errors, name), errors.AnytuneError, ValueError):
                with self.assertRaises(caught):
                    raise getattr(errors, name)(*VALUES[0][: len(attributes)])

    def test_errors_can_be_shown(self):
        for name, attributes in ATTRIBUTES.items():
            for values in VALUES:
                error = getattr(errors, name)(*values[: len(attributes)])
                self.assertIsInstance(str(error), str)
                self.assertIsInstance(repr(error), str)

    def test_ring_is_a_list_of_its_own(self):
        ring = ["a", "b"]
        error = errors.Ringed(ring)
        ring.append("c")
        self.assertEqual(error.ring, ["a", "b"])
        error.ring.append("d")
        self.assertEqual(ring, ["a", "b", "c"])

    def test_lists_and_dicts_may_change_later(self):
        for name, attributes in ATTRIBUTES.items():
            values = [[1, [place], {"a": [place]}] for place in range(len(attributes))]
            tables = [{"a": place, "b": [place], (1, 2): {3: 4}} for place in range(len(attributes))]
            listed = getattr(errors, name)(*values)
            told = getattr(errors, name)(*tables)
            for value, table in zip(values, tables):
                value[1].append(9)
                value[2]["a"].append(9)
                value.append(9)
                table["b"].append(9)
                table[1, 2][5] = 6
                table["c"] = 9
            for place, attribute in enumerate(attributes):
                with self.subTest(name=name, attribute=attribute):
                    self.assertEqual(getattr(listed, attribute), [1, [place], {"a": [place]}])
                    self.assertEqual(getattr(told, attribute), {"a": place, "b": [place], (1, 2): {3: 4}})

    def test_other_values_stay_themselves(self):
        for value in (("a", [1]), Moment(1, 2), "text", 10**60, None, errors.NoTurns()):
            self.assertIs(errors.BadPace(value).pace, value)
            self.assertIs(errors.NoMark(5, value, 7).begin, value)


if __name__ == "__main__":
    unittest.main()
