"""anytune/comparing.py: points 23 and 24."""

import unittest

from anytune.charts import Chart, chart
from anytune.comparing import Parting, alike, apart, parting, silent, within
from anytune.errors import NotPlain
from anytune.marks import Mark
from anytune.moments import Moment
from anytune.pieces import Piece, turns
from anytune.tunes import Tune
from model import build, dice, fraction, mark_values, random_marks, random_time, random_tree, shows, tune_pattern

HALF = Moment(1, 2)
LONG = 10**59
X = Piece.named("x")
Y = Piece.named("y")
Z = Piece.named("z")
SILENCE = Piece.silence()


class PartingCase(unittest.TestCase):
    """What a Parting has to be."""

    def check_parting(self, p, q, given=None):
        found = parting(p, q, given=given)
        self.assertIs(type(found), Parting)
        self.assertIs(type(found.left), bool)
        self.assertIs(type(found.moment), Moment)
        self.assertIs(type(found.mark), Mark)
        self.assertEqual((found.mark.start, found.mark.stop), (found.mark.begin, found.mark.end))
        self.assertTrue(found.mark.begin <= found.moment < found.mark.end)
        pieces = [p, q] if given is None else [p, q, given]
        self.assertEqual(sorted(found.filling), sorted({name for piece in pieces for name in piece.holes}))
        for tune in found.filling.values():
            self.assertIs(type(tune), Tune)
        self.assertIs(self.shown(p, found), found.left)
        self.assertIs(self.shown(q, found), not found.left)
        if given is not None:
            self.assertEqual(given.filled(**found.filling), Tune.empty())

    def shown(self, piece, found):
        reading = piece.filled(**found.filling)(found.moment, found.moment + Moment(1, 10**70))
        values = (found.mark.tone, found.mark.begin, found.mark.end)
        return values in [(mark.tone, mark.begin, mark.end) for mark in reading if mark.start == found.moment]


class Comparing(PartingCase):
    def test_the_examples_of_the_document(self):
        x = Piece.named("x")
        y = Piece.named("y")
        self.assertEqual(
            [alike(-(-x), x), alike(x, turns(x, x)), alike(x ^ x, Piece.silence()), within(x & (x << 1), x)],
            [True, False, True, True],
        )
        self.assertIs(alike(x ^ y, x | y, given=x & y), True)

    def test_alike(self):
        for p, q in (
            (X, X),
            (X | Y, Y | X),
            (X ^ Y, (X - Y) | (Y - X)),
            (X - (X - Y), X & Y),
            ((X << 1) >> 1, X),
            (X * 2 // 2, X),
            ((X * 2) << 1, (X << 2) * 2),
            (-(X << 1), -X << 1),
            ((X + 1) + -1, X),
            (turns(X.nth(0, 2), X.nth(1, 2)), X),
            (turns(X, Y).nth(0, 2), X),
            (X.only(0, HALF) | X.only(HALF, 1), X),
            (X.every(2, Y) | X.every(2, Y, first=1), X | Y),
            (-(X.only(0, HALF)), (-X).only(HALF, 1)),
            (X & SILENCE, SILENCE),
        ):
            self.assertIs(alike(p, q), True)
            self.assertIs(alike(q, p), True)
            self.assertIsNone(parting(p, q))

    def test_not_alike(self):
        for p, q in (
            (X, Y),
            (X, SILENCE),
            (X, X + 1),
            (X, X << 1),
            (X, X << Moment(1, LONG)),
            (X, X * 2),
            (X, -X),
            (X, X.nth(0, 2)),
            (X, X.nth(1, 1)),
            (X.nth(0, 2), X.nth(0, 3)),
            (X, X.only(0, Moment(LONG - 1, LONG))),
            (X.every(2, Y), X.every(2, Y, first=1)),
            (turns(X, X), turns(X, X, X)),
            (turns(X, X << 2), turns(X << 2, X)),
            (X | Y, X ^ Y),
            (-X << HALF, -(X << HALF)),
        ):
            self.assertIs(alike(p, q), False)
            self.assertIs(alike(q, p), False)
            self.check_parting(p, q)
            self.check_parting(q, p)

    def test_within(self):
        self.assertIs(within(X & Y, X), True)
        self.assertIs(within(X, X | Y), True)
        self.assertIs(within(X - Y, X), True)
        self.assertIs(within(X.only(0, HALF), X), True)
        self.assertIs(within(SILENCE, X), True)
        self.assertIs(within(X, X), True)
        self.assertIs(within(X, X & Y), False)
        self.assertIs(within(X, SILENCE), False)
        self.assertIs(within(X, X.only(0, HALF)), False)
        self.assertIs(within(X.nth(0, 2), X), False)
        self.assertIs(within(X.every(2, Y), X | Y), True)

    def test_apart(self):
        self.assertIs(apart(X, Y - X), True)
        self.assertIs(apart(X.only(0, HALF), X.only(HALF, 1)), True)
        self.assertIs(apart(X.only(0, 1, rounds=2), Y.only(1, 2, rounds=2)), True)
        self.assertIs(apart(X.only(0, 1, rounds=2), Y.only(1, 2, rounds=3)), False)
        self.assertIs(apart(X, SILENCE), True)
        self.assertIs(apart(X, X), False)
        self.assertIs(apart(X, Y), False)
        self.assertIs(apart(X, X + 1), False)

    def test_silent(self):
        self.assertIs(silent(SILENCE), True)
        self.assertIs(silent(X - X), True)
        self.assertIs(silent(X.only(0, HALF) & Y.only(HALF, 1)), True)
        self.assertIs(silent((X & Y) - (Y | Z)), True)
        self.assertIs(silent(X), False)
        self.assertIs(silent(X.only(0, Moment(1, LONG))), False)
        self.assertIs(silent(X - (X << 1)), False)


class Given(PartingCase):
    def test_restrictions_that_restrict_nothing(self):
        for given in (None, SILENCE, X - X, Z & SILENCE):
            self.assertIs(alike(-(-X), X, given=given), True)
            self.assertIs(alike(X, X << 1, given=given), False)
            self.assertIs(within(X & Y, X, given=given), True)
            self.assertIs(within(X, X & Y, given=given), False)
            self.assertIs(apart(X, Y, given=given), False)
            self.assertIs(silent(X, given=given), False)
            self.assertIs(silent(X ^ X, given=given), True)
            self.check_parting(X | Y, X & Y, given=given)

    def test_a_silent_hole(self):
        self.assertIs(silent(X, given=X), True)
        self.assertIs(silent(X.nth(3, 2) << HALF, given=X | Y), True)
        self.assertIs(alike(X | Y, Y, given=X), True)
        self.assertIs(alike(X | Y, Y, given=X & Y), False)
        self.check_parting(X | Y, Y, given=X & Y)

    def test_holes_that_do_not_meet(self):
        self.assertIs(apart(X, Y, given=X & Y), True)
        self.assertIs(alike(X ^ Y, X | Y, given=X & Y), True)
        self.assertIs(alike(-(X ^ Y) * 3, -(X | Y) * 3, given=X & Y), True)
        self.assertIs(apart(X << 1, Y << 1, given=X & Y), True)
        # The restriction speaks of the same moment of the fillings only.
        self.assertIs(apart(X << 1, Y, given=X & Y), False)
        self.assertIs(apart(X + 1, Y, given=X & Y), False)
        self.assertIs(apart(-X, Y, given=X & Y), False)
        self.check_parting((X << 1) & Y, SILENCE, given=X & Y)
        self.check_parting((X + 1) & Y, SILENCE, given=X & Y)
        self.check_parting(-X & Y, SILENCE, given=X & Y)

    def test_holes_within_others(self):
        self.assertIs(within(X, Y, given=X - Y), True)
        self.assertIs(within(Y, X, given=X - Y), False)
        self.assertIs(within(turns(X, X) << 2, turns(Y, Y) << 2, given=X - Y), True)
        self.assertIs(alike(X, Y, given=X ^ Y), True)
        self.check_parting(Y, X, given=X - Y)

    def test_holes_of_the_restriction_alone(self):
        # x shows only what z shows, and y nothing of what z shows.
        given = (X - Z) | (Y & Z)
        self.assertIs(apart(X, Y, given=given), True)
        self.assertIs(apart(X, Y << 1, given=given), False)
        self.check_parting(X, Y, given=given)
        self.check_parting(X & (Y << 1), SILENCE, given=given)
        self.assertIs(alike(X, X, given=Z), True)
        self.assertEqual(sorted(parting(X, SILENCE, given=Z).filling), ["x", "z"])
        self.assertEqual(parting(X, SILENCE, given=Z).filling["z"], Tune.empty())

    def test_holes_that_do_not_matter(self):
        found = parting(X | (Y - Y), Z & SILENCE, given=Piece.named("w") & Y)
        self.assertEqual(sorted(found.filling), ["w", "x", "y", "z"])
        self.check_parting(X | (Y - Y), Z & SILENCE, given=Piece.named("w") & Y)

    def test_not_plain(self):
        for given in (
            X + 1,
            0 + X,
            X << 0,
            X >> 0,
            X * 1,
            1 * X,
            X // 1,
            -X,
            -(-X),
            X.only(0, 1),
            X.every(1, X),
            X.nth(0, 1),
            turns(X),
            chart(X).piece(),
            Chart.read("rounds 1\ncell 0 1 0").piece(),
            X | (Y << 0),
            (X * 1) & Y,
            SILENCE - chart(X).piece(),
            SILENCE ^ SILENCE.only(0, 1),
            (X & -Y) - X,
        ):
            for p, q in ((X, X), (X, Y), (SILENCE, SILENCE)):
                for compare in (alike, within, apart, parting):
                    self.assertRaises(NotPlain, compare, p, q, given=given)
                self.assertRaises(NotPlain, silent, p, given=given)
        for given in (X, SILENCE, X | Y, (X & Y) - Z, (X ^ Y) ^ SILENCE):
            self.assertIs(alike(X, X, given=given), True)

    def test_given_is_passed_by_name(self):
        for compare in (alike, within, apart, parting):
            self.assertRaises(TypeError, compare, X, X, None)
        self.assertRaises(TypeError, silent, X, None)


class Partings(PartingCase):
    def test_long_numbers(self):
        self.check_parting(X.nth(LONG, 7), X.nth(-LONG, 7))
        self.check_parting(X.nth(LONG, 1), X)
        self.check_parting(X + LONG, X + -LONG)
        self.check_parting(X << 60, X)
        self.check_parting(X.nth(5040, 1), X)

    def test_ways_that_fall_together_for_a_while(self):
        # In round 0 the ways lead to the same moments.
        self.check_parting(X, X.nth(0, 2))
        self.check_parting(X.nth(-7, 8) & X, X)
        self.check_parting(X ^ X.nth(0, 2) ^ X.nth(0, 3) ^ X.nth(0, 4), SILENCE)
        # In the middle of a round they lead to the same moment.
        self.check_parting(X & -X, X)
        self.check_parting(X - -X, SILENCE)

    def test_many_ways(self):
        many = SILENCE
        all_of_them = X
        for k in range(6):
            many = many ^ (X << Moment(k, 3))
            all_of_them = all_of_them & (X << k)
        self.check_parting(many, SILENCE)
        self.check_parting(all_of_them, SILENCE)
        self.check_parting(all_of_them & many, all_of_them & (X << 9))

    def test_fillings_are_new(self):
        parting(X, Y).filling.clear()
        self.assertEqual(sorted(parting(X, Y).filling), ["x", "y"])

    def test_random_pieces(self):
        both = ("and", ("hole", "x"), ("hole", "y"))
        for seed in range(100):
            die = dice(seed)
            trees = [random_tree(die, die.randrange(6)), random_tree(die, die.randrange(5))]
            p, q = [build(tree) for tree in trees]
            self.assertIs(alike(p, q), chart(p) == chart(q), seed)
            self.assertIs(within(p, q), alike(p & q, p), seed)
            self.assertIs(apart(p, q), silent(p & q), seed)
            for given in (None, build(both)):
                found = parting(p, q, given=given)
                self.assertIs(found is None, alike(p, q, given=given), seed)
                if found is None:
                    self.check_alike(die, trees, given is not None)
                else:
                    self.check_parting(p, q, given=given)
                    self.check_by_the_rules(trees, found)

    def check_by_the_rules(self, trees, found):
        patterns = {name: tune_pattern(1, []) for name in "xy"}
        for name, tune in found.filling.items():
            patterns[name] = tune_pattern(tune.rounds, tune.marks)
        mark = mark_values(found.mark)[:3]
        left, right = [mark in shows(tree, patterns, fraction(found.moment)) for tree in trees]
        self.assertEqual((left, right), (found.left, not found.left))

    def check_alike(self, die, trees, separate):
        """Pieces that are said to be alike show the same for some fillings, with no common marks if separate."""
        marks = {"x": random_marks(die, 3), "y": random_marks(die, 3)}
        if separate:
            marks["y"] = [mark for mark in random_marks(die, 3) if mark.tone == 1]
            marks["x"] = [mark for mark in marks["x"] if mark.tone == 0]
        patterns = {name: tune_pattern(2, marks[name]) for name in "xy"}
        for _ in range(8):
            t = random_time(die, -9, 9)
            self.assertEqual(shows(trees[0], patterns, t), shows(trees[1], patterns, t))


class LargePieces(unittest.TestCase):
    def test_many_rounds(self):
        p = turns(*[X.only(Moment(k % 7, 8), Moment(k % 7 + 1, 8)) | Y for k in range(48)])
        q = turns(*[X.only(Moment(k % 5, 8), Moment(k % 5 + 1, 8)) for k in range(47)])
        self.assertIs(alike(p, q), False)
        self.assertIs(within(p & q, p), True)
        self.assertIs(apart(p - Y, q.every(1, Y)), True)
        self.assertIs(apart(p, q), False)
        self.assertIs(alike(p | p, p), True)
        self.assertIsNotNone(parting(p, q))

    def test_many_routes(self):
        holes = [Piece.named(name) for name in "abcdef"]
        p = q = SILENCE
        for k, hole in enumerate(holes):
            p = p ^ (hole << k)
            q = q ^ (hole >> k)
        given = (holes[0] & holes[1]) | (holes[2] & holes[3]) | (holes[4] ^ holes[5])
        self.assertIs(alike(p, q, given=given), False)
        found = parting(p, q, given=given)
        self.assertEqual(given.filled(**found.filling), Tune.empty())
        self.assertIs(within(p & q, p, given=given), True)
        self.assertIs(silent(holes[4] - holes[5], given=given), True)


if __name__ == "__main__":
    unittest.main()
