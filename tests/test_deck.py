"""anytune/deck.py: points 31 to 35."""

import unittest
from fractions import Fraction

from anytune.charts import Chart, chart
from anytune.deck import Deck
from anytune.errors import LooksAhead, NoChannel, NoName, NoPace, NoSpan, Ringed
from anytune.marks import Mark
from anytune.moments import Moment
from anytune.moves import undo
from anytune.pace import ahead, lead
from anytune.pieces import Piece, turns
from anytune.tunes import Tune
from model import (
    Channels,
    between,
    build,
    dice,
    fraction,
    joined,
    moment,
    random_chart,
    random_tree,
    random_tune,
    reading_at,
    told,
    tune_pattern,
)

HALF = Moment(1, 2)
LONG = 10**59
A = Piece.named("a")
B = Piece.named("b")
C = Piece.named("c")
D = Piece.named("d")
BEAT = Tune(2, [Mark(1, 0, 1)])
LINE = Tune(1, [Mark(5, 0, 1)])
SILENCE = Piece.silence()


def deck_of(**things):
    deck = Deck()
    for name, thing in things.items():
        deck[name] = thing
    return deck


class DeckCase(unittest.TestCase):
    def assert_raised(self, error, values, call, *args):
        with self.assertRaises(error) as caught:
            call(*args)
        self.assertEqual(list(vars(caught.exception).values()), values)

    def set(self, deck, name, thing):
        deck[name] = thing

    def play(self, deck, span):
        """Plays on, and makes sure that it is the same deck afterwards."""
        same = deck
        same += span
        self.assertIs(same, deck)
        self.assertIs(type(deck.now), Moment)

    def state(self, deck):
        """All that can be seen of a deck."""
        return (
            str(deck.now),
            len(deck),
            deck.names(),
            [id(deck[name]) for name in deck.names()],
            [told(deck.played(name, -9, 99)) for name in deck.names()],
        )

    def assert_played(self, deck, name, begin, end, *expected):
        found = deck.played(name, begin, end)
        self.assertIs(type(found), list)
        self.assertEqual(told(found), list(expected))


class Channel(DeckCase):
    def test_the_example_of_the_document(self):
        deck = Deck()
        deck.change([("a", Tune(4, [Mark(1, 0, 1)])), ("b", Piece.named("a") | (Piece.named("b") + 1 >> 1))])
        deck += 3
        self.assertEqual(
            [len(deck.played("b", 0, 3)), deck.played("b", 2, 3)[0].tone, deck.played("a", 1, 3)], [3, 3, []]
        )

    def test_a_new_deck(self):
        deck = Deck()
        self.assertEqual((deck.now, type(deck.now), len(deck), deck.names()), (0, Moment, 0, []))
        self.assertIs("a" in deck, False)
        self.assert_raised(NoChannel, ["a"], deck.played, "a", 0, 1)
        self.play(deck, LONG)
        self.assertEqual(deck.now, LONG)

    def test_names_and_things(self):
        deck = Deck()
        piece = A >> 1
        for name, thing in (("drum", BEAT), ("a", piece), ("zither", LINE), ("abcdefgh", SILENCE)):
            deck[name] = thing
            self.assertIs(deck[name], thing)
            self.assertIs(name in deck, True)
            self.assertIs(name not in deck, False)
        self.assertEqual((len(deck), deck.names()), (4, ["drum", "a", "zither", "abcdefgh"]))
        deck["a"] = LINE
        self.assertIs(deck["a"], LINE)
        self.play(deck, 3)
        deck["drum"] = piece
        self.assertIs(deck["drum"], piece)
        self.assertEqual((len(deck), deck.names()), (4, ["drum", "a", "zither", "abcdefgh"]))
        # A hole of a piece is no channel that has been set.
        deck["b"] = C >> 1
        self.assertIs("c" in deck, False)
        self.assertEqual(len(deck), 5)

    def test_no_channel(self):
        deck = deck_of(a=C)
        self.play(deck, 2)
        for name in ("b", "c", "", "No name", "self", "abcdefghi", "\n", "a "):
            self.assertIs(name in deck, False)
            self.assert_raised(NoChannel, [name], lambda: deck[name])
            self.assert_raised(NoChannel, [name], deck.played, name, 0, 1)
            self.assert_raised(NoChannel, [name], deck.played, name, 1, 0)

    def test_names_are_new_lists(self):
        deck = deck_of(a=BEAT)
        deck.names().append("b")
        self.assertEqual(deck.names(), ["a"])
        self.assertIs(type(deck.names()), list)

    def test_a_deck_is_not_iterated_over(self):
        self.assertRaises(TypeError, list, deck_of(a=BEAT))

    def test_other_operands(self):
        deck = Deck()
        for wrong in ("1", None, [1], BEAT):
            with self.assertRaises(TypeError):
                deck += wrong


class Assignments(DeckCase):
    def test_no_name(self):
        deck = deck_of(a=BEAT)
        before = self.state(deck)
        for name in ("", "self", "abcdefghi", "A", "a1", "a b", " ", "a\n", "_"):
            for thing in (BEAT, A, A << 1, A * 2):
                self.assert_raised(NoName, [name], self.set, deck, name, thing)
                self.assertEqual(self.state(deck), before)

    def test_no_pace(self):
        deck = deck_of(a=BEAT)
        before = self.state(deck)
        for thing, hole, speed in (
            (A * 2, "a", 2),
            (B // 3, "b", Moment(1, 3)),
            (turns(D, C), "c", HALF),
            (C | A.nth(0, 2), "a", 2),
            ((A << 2) * 3, "a", 3),
            ((A >> 2) * 3 | (A << 1), "a", 3),
        ):
            self.assert_raised(NoPace, [hole, speed], self.set, deck, "b", thing)
            self.assertEqual(self.state(deck), before)

    def test_looks_ahead(self):
        deck = deck_of(a=BEAT)
        before = self.state(deck)
        for thing, hole in (
            (A << 1, "a"),
            (B << Moment(1, LONG), "b"),
            (-C, "c"),
            (D >> 1 | -C | (B << 1), "b"),
            ((A >> 3) | (A << Moment(1, 60)), "a"),
            ((-A).only(0, HALF), "a"),
        ):
            for name in ("b", "zither"):
                self.assert_raised(LooksAhead, [name, hole], self.set, deck, name, thing)
                self.assertEqual(self.state(deck), before)
        for thing in (A, A >> 1, -A >> 1, (-A).only(HALF, 1), SILENCE, A - (A << 0), B >> Moment(1, 60)):
            deck["zither"] = thing
            self.assertIs(deck["zither"], thing)

    def test_the_order_of_errors(self):
        deck = Deck()
        # Hole by hole, in alphabetical order.
        self.assert_raised(LooksAhead, ["x", "a"], self.set, deck, "x", (A << 1) | B * 2)
        self.assert_raised(NoPace, ["a", 2], self.set, deck, "x", (B << 1) | A * 2)
        self.assert_raised(NoPace, ["a", 2], self.set, deck, "x", (A << 1) | A * 2)
        self.assert_raised(LooksAhead, ["x", "a"], self.set, deck, "x", (C << 1) | (B << 2) | (A << 3))
        self.assert_raised(NoName, ["self"], self.set, deck, "self", (A << 1) | B * 2)

    def test_holes_without_a_route_do_not_count(self):
        deck = Deck()
        for thing in (A | (B << 1) - (B << 1), A - (A & (B * 2) & SILENCE), (A << 1) ^ (A << 1)):
            deck["x"] = thing
        self.assertEqual(deck.names(), ["x"])

    def test_pieces_and_tunes_stay(self):
        piece, tune = A | (B >> 1), Tune(2, [Mark(1, 0, 1)])
        before = str(chart(piece)), told(tune.marks)
        deck = deck_of(a=tune, b=piece)
        self.play(deck, 5)
        self.assertEqual((str(chart(piece)), told(tune.marks), piece.holes), (*before, ["a", "b"]))


class WhenSettingsCount(DeckCase):
    def test_from_the_next_whole_round_on(self):
        deck = Deck()
        self.play(deck, HALF)
        deck["a"] = LINE
        self.play(deck, HALF)
        self.assert_played(deck, "a", -9, 9)
        self.play(deck, HALF)
        self.assert_played(deck, "a", -9, 9, "5 1 2 1 3/2")
        deck["a"] = BEAT
        self.play(deck, 2)
        self.assert_played(deck, "a", -9, 9, "5 1 2 1 2", "1 2 3 2 3")

    def test_at_a_whole_round(self):
        deck = deck_of(a=LINE)
        self.play(deck, 2)
        deck["a"] = BEAT
        self.play(deck, 2)
        self.assert_played(deck, "a", 0, 9, "5 0 1 0 1", "5 1 2 1 2", "1 2 3 2 3")

    def test_settings_that_count_from_the_same_round(self):
        deck = deck_of(a=LINE)
        deck["a"] = BEAT
        self.play(deck, 1)
        self.assert_played(deck, "a", 0, 9, "1 0 1 0 1")
        for span in (Moment(1, 4), Moment(1, 4), HALF):
            deck["a"] = LINE + deck.now.bottom
            self.play(deck, span)
        # At 1 for round 1, at 5/4 and at 3/2 for round 2, and at 2 for round 2 again.
        deck["a"] = LINE + 90
        self.play(deck, 1)
        self.assert_played(deck, "a", 1, 9, "6 1 2 1 2", "95 2 3 2 3")

    def test_a_setting_is_replaced_at_a_whole_round(self):
        deck = Deck()
        self.play(deck, HALF)
        deck["a"] = LINE
        self.play(deck, HALF)
        deck["a"] = LINE + 1
        self.play(deck, 1)
        self.assert_played(deck, "a", 0, 9, "6 1 2 1 2")

    def test_marks_are_cut_where_settings_change(self):
        long = Tune(8, [Mark(1, 0, 8)])
        deck = deck_of(a=long)
        self.play(deck, 2)
        deck["a"] = SILENCE
        self.play(deck, 1)
        deck["a"] = long
        self.play(deck, 3)
        self.assert_played(deck, "a", 0, 9, "1 0 8 0 2", "1 0 8 3 6")
        # The same mark goes on under another setting.
        deck["a"] = long | Tune(8, [Mark(2, 6, 7)])
        self.play(deck, 2)
        self.assert_played(deck, "a", 0, 9, "1 0 8 0 2", "1 0 8 3 8", "2 6 7 6 7")

    def test_the_latest_setting_is_told_before_it_counts(self):
        deck = deck_of(a=LINE)
        self.play(deck, HALF)
        deck["a"] = BEAT
        self.assertIs(deck["a"], BEAT)
        self.assert_played(deck, "a", 0, 9, "5 0 1 0 1/2")


class Playing(DeckCase):
    def test_tunes_keep_their_rounds(self):
        deck = Deck()
        self.play(deck, 3)
        deck["a"] = Tune(2, [Mark(1, 0, 1), Mark(2, 1, 2)])
        self.play(deck, 3)
        self.assert_played(deck, "a", 0, 9, "2 3 4 3 4", "1 4 5 4 5", "2 5 6 5 6")

    def test_pieces_keep_their_rounds(self):
        deck = deck_of(a=LINE)
        self.play(deck, 1)
        deck["b"] = A.every(2, A + 10)
        self.play(deck, 2)
        self.assert_played(deck, "b", 0, 9, "5 1 2 1 2", "15 2 3 2 3")

    def test_pieces_of_other_channels(self):
        deck = deck_of(c=B + 1, b=A + 1, a=LINE, d=A & C)
        self.play(deck, 2)
        self.assert_played(deck, "c", 0, 9, "7 0 1 0 1", "7 1 2 1 2")
        self.assert_played(deck, "d", 0, 9)

    def test_what_was_shown_before_is_still_asked_for(self):
        deck = deck_of(a=LINE, b=A >> 1)
        self.play(deck, 2)
        deck["a"] = LINE + 1
        self.play(deck, 2)
        self.assert_played(deck, "b", 0, 9, "5 1 2 1 2", "5 2 3 2 3", "6 3 4 3 4")
        # The marks of a channel are asked for before the asking one has been set, too.
        deck["c"] = A >> 4
        self.play(deck, 1)
        self.assert_played(deck, "c", 0, 9, "5 4 5 4 5")

    def test_before_the_start_all_is_silent(self):
        deck = deck_of(a=LINE, b=A - (A >> 2), c=-A >> 1)
        self.play(deck, 3)
        self.assert_played(deck, "b", -9, 9, "5 0 1 0 1", "5 1 2 1 2")
        self.assert_played(deck, "c", -9, 9, "5 1 2 1 2", "5 2 3 2 3")
        long = Tune(3, [Mark(1, 0, 3)])
        deck = deck_of(a=long >> 1, b=A ^ (A >> 3))
        self.play(deck, 5)
        self.assert_played(deck, "a", -9, 9, "1 -2 1 0 1", "1 1 4 1 4", "1 4 7 4 5")
        self.assert_played(deck, "b", -9, 9, "1 -2 1 0 1", "1 1 4 1 3")

    def test_channels_that_ask_themselves(self):
        deck = deck_of(a=Tune(60, [Mark(1, 0, 2)]), b=A | (B + 1 >> Moment(3, 2)))
        self.play(deck, 5)
        self.assert_played(
            deck, "b", 0, 9, "1 0 2 0 2", "2 3/2 7/2 3/2 7/2", "3 3 5 3 5", "4 9/2 13/2 9/2 5"
        )
        deck = deck_of(a=Tune(60, [Mark(1, 0, Moment(1, 60))]), b=A | (B >> Moment(1, 60)))
        self.play(deck, 2)
        self.assertEqual(len(deck.played("b", 0, 9)), 120)
        self.assert_played(deck, "b", 1, Moment(61, 60), "1 1 61/60 1 61/60")

    def test_channels_that_take_turns(self):
        deck = deck_of(a=Tune(60, [Mark(1, 0, 1)]), b=A | (C + 1 >> 1), c=B + 10)
        self.play(deck, 3)
        self.assert_played(deck, "b", 0, 9, "1 0 1 0 1", "12 1 2 1 2", "23 2 3 2 3")
        self.assert_played(deck, "c", 0, 9, "11 0 1 0 1", "22 1 2 1 2", "33 2 3 2 3")

    def test_a_channel_that_has_silenced_itself(self):
        # It shows the line where it was silent half a round before.
        deck = deck_of(a=Tune(8, [Mark(1, 0, 8)]), b=A - (B >> HALF))
        self.play(deck, 4)
        self.assert_played(deck, "b", 0, 9, "1 0 8 0 4")
        deck = deck_of(a=Tune(1, [Mark(1, k, k + 1) for k in range(4)]), b=A - (B >> 1))
        self.play(deck, 4)
        self.assert_played(deck, "b", 0, 9, "1 0 1 0 1", "1 2 3 2 3")

    def test_names_that_have_never_been_set(self):
        deck = deck_of(a=LINE, b=A - C, d=C | (D >> 1))
        self.play(deck, 2)
        self.assert_played(deck, "b", 0, 9, "5 0 1 0 1", "5 1 2 1 2")
        self.assert_played(deck, "d", 0, 9)
        deck["c"] = LINE
        self.play(deck, 2)
        self.assert_played(deck, "b", 2, 9)
        self.assert_played(deck, "d", 2, 9, "5 2 3 2 3", "5 3 4 3 4")

    def test_mirrored_rounds(self):
        deck = deck_of(a=Tune(3, [Mark(1, 0, Moment(1, 4)), Mark(2, 1, 2)]), b=-A >> 1)
        self.play(deck, 3)
        self.assert_played(deck, "b", 0, 9, "1 7/4 2 7/4 2", "2 2 3 2 3")

    def test_spans(self):
        whole = deck_of(a=BEAT, b=A | (B + 1 >> Moment(5, 6)))
        self.play(whole, 6)
        for spans in ([1] * 6, [Moment(1, 7)] * 42, [Moment(7, 2), 0, Moment(5, 2)], [HALF, 5, Moment(1, 2), 0]):
            deck = deck_of(a=BEAT, b=A | (B + 1 >> Moment(5, 6)))
            for span in spans:
                self.play(deck, span)
            self.assertEqual(deck.now, 6)
            for name in "ab":
                self.assertEqual(deck.played(name, 0, 6), whole.played(name, 0, 6))

    def test_no_span(self):
        deck = deck_of(a=LINE)
        self.play(deck, Moment(3, 2))
        before = self.state(deck)
        for span in (-1, Moment(-1, LONG), -LONG):
            self.assert_raised(NoSpan, [span], self.play, deck, span)
            self.assertEqual(self.state(deck), before)
        for span in (0, Moment(0)):
            self.play(deck, span)
            self.assertEqual(self.state(deck), before)

    def test_pieces_of_charts_and_of_undo(self):
        for piece in (
            chart(-A >> 1).piece(),
            Chart.read(str(chart(A & (B >> 1)))).piece(),
            undo(A << HALF),
            undo(-A << 1),
            undo(-A << 1) | (undo(B << 2) + 3),
        ):
            deck = deck_of(a=BEAT | (LINE + 2), b=piece)
            self.play(deck, 4)
            expected = piece.over({"a": deck.played("a", 0, 4), "b": deck.played("b", 0, 4)}, 0, 4)
            self.assertEqual(deck.played("b", 0, 4), expected)
        deck = Deck()
        self.assert_raised(LooksAhead, ["b", "a"], self.set, deck, "b", undo(A >> 1))
        self.assert_raised(NoPace, ["a", 2], self.set, deck, "b", undo(A // 2))
        self.assert_raised(LooksAhead, ["b", "a"], self.set, deck, "b", chart(-A).piece())
        deck["b"] = undo(B)
        self.assert_raised(Ringed, [["b"]], self.play, deck, 1)


class Played(DeckCase):
    def test_parts_of_what_was_played(self):
        deck = deck_of(a=Tune(4, [Mark(1, 0, 3)]))
        self.play(deck, Moment(5, 2))
        self.assert_played(deck, "a", 0, 2, "1 0 3 0 2")
        self.assert_played(deck, "a", -5, 99, "1 0 3 0 5/2")
        self.assert_played(deck, "a", HALF, 1, "1 0 3 1/2 1")
        self.assert_played(deck, "a", Moment(9, 4), 9, "1 0 3 9/4 5/2")
        self.play(deck, 2)
        self.assert_played(deck, "a", 2, 9, "1 0 3 2 3", "1 4 7 4 9/2")

    def test_empty_stretches(self):
        deck = deck_of(a=LINE)
        self.assert_played(deck, "a", 0, 5)
        self.play(deck, 2)
        for begin, end in ((0, 0), (HALF, HALF), (1, 0), (5, -5), (-5, 0), (-5, -1), (2, 9), (3, 4), (LONG, LONG + 1)):
            self.assert_played(deck, "a", begin, end)

    def test_integers_and_moments(self):
        deck = deck_of(a=LINE, b=A >> HALF)
        self.play(deck, 1)
        self.play(deck, Moment(1))
        for begin, end in ((0, 2), (-1, 1), (1, 5)):
            expected = told(deck.played("b", begin, end))
            self.assert_played(deck, "b", Moment(begin), end, *expected)
            self.assert_played(deck, "b", begin, Moment(end), *expected)
        for mark in deck.played("b", 0, 2):
            self.assertEqual([type(time) for time in (mark.begin, mark.end, mark.start, mark.stop)], [Moment] * 4)

    def test_the_order_of_readings(self):
        marks = [Mark(2, 0, 1), Mark(1, 0, 1), Mark(1, 0, 2), Mark(1, -1, 1, start=0), Mark(0, 1, 2)]
        expected = ["1 -1 1 0 1", "1 0 1 0 1", "2 0 1 0 1", "1 0 2 0 2", "0 1 2 1 2"]
        deck = deck_of(a=Tune(4, marks), b=A)
        self.play(deck, 3)
        self.assert_played(deck, "a", 0, 3, *expected)
        self.assert_played(deck, "b", 0, 3, *expected)

    def test_results_are_new(self):
        deck = deck_of(a=LINE)
        self.play(deck, 2)
        deck.played("a", 0, 2).clear()
        self.assertEqual(len(deck.played("a", 0, 2)), 2)


class Rings(DeckCase):
    def check_ring(self, deck, *rings):
        """Playing on raises an error with one of the rings, and nothing changes."""
        before = self.state(deck)
        for span in (1, Moment(1, LONG), 60, Moment(-(-deck.now // 1)) - deck.now + Moment(1, 9)):
            if deck.now + span > -(-deck.now // 1):
                with self.assertRaises(Ringed) as caught:
                    self.play(deck, span)
                self.assertIs(type(caught.exception.ring), list)
                self.assertIn(caught.exception.ring, list(rings))
                self.assertEqual(self.state(deck), before)

    def test_a_channel_of_its_own(self):
        for piece in (A, A + 1, A | B, (A >> 1) | A, (-A).only(HALF, 1), -A >> 1, LINE_OF_A, chart(A).piece()):
            self.check_ring(deck_of(a=piece), ["a"])

    def test_longer_rings(self):
        self.check_ring(deck_of(b=A, a=B), ["a", "b"])
        self.check_ring(deck_of(c=A, a=B, b=C), ["a", "b", "c"])
        self.check_ring(deck_of(c=B, b=A, a=C), ["a", "c", "b"])
        self.check_ring(deck_of(zither=Piece.named("drum"), drum=Piece.named("zither"), a=BEAT), ["drum", "zither"])
        # Channels that wait for a ring, and channels that a ring waits for, are not in it.
        self.check_ring(deck_of(a=B, b=C | D, c=B, d=LINE), ["b", "c"])
        # One of two rings.
        self.check_ring(deck_of(a=A, b=C, c=B), ["a"], ["b", "c"])
        self.check_ring(deck_of(a=B | C, b=A, c=A), ["a", "b"], ["a", "c"])
        self.check_ring(deck_of(a=B, b=C | D, c=A, d=A), ["a", "b", "c"], ["a", "b", "d"])

    def test_no_rings(self):
        for things in (
            {"a": A >> Moment(1, 60)},
            {"a": B, "b": A >> 1},
            {"a": B, "b": C, "c": D},
            {"a": B | C, "b": C | D, "c": D},
            {"a": B, "b": BEAT},
            {"a": A - A},
            {"a": (A & SILENCE) | B, "b": (A ^ A) | LINE_OF_C},
        ):
            deck = deck_of(**things)
            self.play(deck, 2)
            self.assertEqual(deck.now, 2)

    def test_rings_whose_channels_never_ask_for_the_same_moment(self):
        self.check_ring(deck_of(a=B.only(0, HALF), b=A.only(HALF, 1)), ["a", "b"])
        self.check_ring(deck_of(a=B.every(2, SILENCE), b=SILENCE.every(2, A)), ["a", "b"])
        self.check_ring(deck_of(a=-A >> 1), ["a"])
        self.check_ring(deck_of(a=-B >> 1, b=A), ["a", "b"])

    def test_before_the_ring_counts(self):
        deck = deck_of(a=LINE)
        self.play(deck, HALF)
        deck["a"] = A
        # The piece counts from round 1 on.
        self.play(deck, Moment(1, 4))
        self.play(deck, Moment(1, 4))
        self.assert_played(deck, "a", 0, 9, "5 0 1 0 1")
        self.play(deck, 0)
        self.check_ring(deck, ["a"])
        deck = deck_of(a=LINE)
        self.play(deck, HALF)
        deck["a"] = A
        self.check_ring(deck, ["a"])
        self.play(deck, HALF)
        self.assertEqual(deck.now, 1)

    def test_only_the_latest_settings_count(self):
        deck = deck_of(a=B, b=A)
        deck["b"] = LINE
        self.play(deck, 1)
        self.assert_played(deck, "a", 0, 9, "5 0 1 0 1")
        deck["b"] = A
        self.check_ring(deck, ["a", "b"])
        deck["a"] = B >> 1
        self.play(deck, 1)
        self.assert_played(deck, "b", 1, 9, "5 1 2 1 2")

    def test_a_ring_that_is_gone_again(self):
        deck = deck_of(a=LINE, b=A)
        self.play(deck, Moment(3, 2))
        deck["a"] = B
        self.check_ring(deck, ["a", "b"])
        deck["a"] = LINE + 1
        self.play(deck, Moment(3, 2))
        self.assert_played(deck, "b", 0, 9, "5 0 1 0 1", "5 1 2 1 2", "6 2 3 2 3")

    def test_spans_beside_a_ring(self):
        deck = deck_of(a=A)
        before = self.state(deck)
        self.play(deck, 0)
        self.assert_raised(NoSpan, [-1], self.play, deck, -1)
        self.assert_raised(NoSpan, [Moment(-1, 2)], self.play, deck, Moment(-1, 2))
        self.assertEqual(self.state(deck), before)
        self.check_ring(deck, ["a"])

    def test_the_ring_is_new(self):
        deck = deck_of(a=B, b=A)
        with self.assertRaises(Ringed) as caught:
            self.play(deck, 1)
        caught.exception.ring.clear()
        self.check_ring(deck, ["a", "b"])


LINE_OF_A = A | (A >> 1) & SILENCE
LINE_OF_C = C | SILENCE


class Changes(DeckCase):
    def test_assignments_in_order(self):
        deck = Deck()
        self.assertIsNone(deck.change([("b", LINE), ("a", BEAT), ("b", A)]))
        self.assertEqual((deck.names(), deck["a"], deck["b"]), (["b", "a"], BEAT, deck["b"]))
        self.play(deck, 1)
        self.assert_played(deck, "b", 0, 9, "1 0 1 0 1")
        deck.change([])
        self.assertEqual(len(deck), 2)
        self.play(deck, HALF)
        deck.change([("a", LINE), ("c", A)])
        self.play(deck, Moment(3, 2))
        self.assert_played(deck, "c", 0, 9, "5 2 3 2 3")

    def test_none_counts_if_one_is_refused(self):
        good = [("c", LINE), ("a", A >> 1), ("b", LINE + 1)]
        for row, error, values in (
            (("self", LINE), NoName, ["self"]),
            (("", A << 1), NoName, [""]),
            (("d", C << 1), LooksAhead, ["d", "c"]),
            (("a", -A), LooksAhead, ["a", "a"]),
            (("d", C * 2), NoPace, ["c", 2]),
        ):
            for place in range(4):
                for begun in (0, Moment(3, 2)):
                    deck = deck_of(b=LINE, a=BEAT)
                    self.play(deck, begun)
                    before = self.state(deck)
                    rows = good[:place] + [row] + good[place:]
                    self.assert_raised(error, values, deck.change, rows)
                    self.assertEqual(self.state(deck), before)
                    self.play(deck, 2)
                    other = deck_of(b=LINE, a=BEAT)
                    self.play(other, begun + 2)
                    self.assertEqual(deck.played("b", 0, 9), other.played("b", 0, 9))

    def test_the_first_error(self):
        deck = Deck()
        self.assert_raised(LooksAhead, ["a", "a"], deck.change, [("b", LINE), ("a", A << 1), ("self", LINE)])
        self.assert_raised(NoName, ["self"], deck.change, [("b", LINE), ("self", A * 2), ("a", A << 1)])
        self.assertEqual(deck.names(), [])

    def test_rings_are_no_error_yet(self):
        deck = Deck()
        deck.change([("a", B), ("b", A)])
        self.assertRaises(Ringed, self.play, deck, 1)
        deck.change([("a", B), ("b", A), ("b", LINE)])
        self.play(deck, 1)

    def test_rows_stay_and_may_change_later(self):
        deck = Deck()
        rows = [("a", LINE), ("b", A)]
        before = list(rows)
        deck.change(rows)
        self.assertEqual([rows[0][0], rows[1][0], len(rows)], [before[0][0], before[1][0], 2])
        rows.clear()
        rows.append(("c", LINE))
        self.play(deck, 1)
        self.assertEqual(deck.names(), ["a", "b"])
        self.assert_played(deck, "b", 0, 9, "5 0 1 0 1")


class RandomDecks(DeckCase):
    """Decks show what the rules say, moment by moment."""

    names = "abc"

    def random_thing(self, die):
        """A tune or a piece that does not look ahead, and the same for Channels."""
        if die.random() < 0.3:
            rounds, marks = random_tune(die)
            return Tune(rounds, marks), tune_pattern(rounds, marks)
        while True:
            piece = random_chart(die, holes=self.names) if die.random() < 0.5 else build(random_tree(die, 3, "abcd"))
            if all(route.speed == 1 for cell in chart(piece).cells for route in cell.routes):
                extra = die.choice([0, 0, 0, Moment(1, 3), Moment(1, 7), 1, Moment(3, 2)])
                late = piece >> (lead(piece) + extra)
                return late, chart(late)

    def rings(self, deck):
        """For each name the names that it asks for moments up to its own, and all that are in a ring."""
        asks = {}
        for name in deck.names():
            holes = deck[name].holes if isinstance(deck[name], Piece) else []
            asks[name] = [hole for hole in holes if hole in deck and ahead(deck[name], hole) == 0]
        ringed = dict(asks)
        while True:
            rest = {name for name in ringed if any(hole in ringed for hole in ringed[name])}
            if rest == set(ringed):
                return asks, rest
            ringed = {name: ringed[name] for name in rest}

    def play_on(self, deck, channels, span):
        asks, ringed = self.rings(deck)
        if ringed and channels.now + span > -(-channels.now // 1):
            before = deck.now
            with self.assertRaises(Ringed) as caught:
                self.play(deck, moment(span))
            ring = caught.exception.ring
            self.assertEqual((ring[0], len(set(ring))), (min(ring), len(ring)))
            for name, after in zip(ring, ring[1:] + ring[:1]):
                self.assertIn(after, asks[name])
            self.assertEqual(deck.now, before)
            return 1
        self.play(deck, moment(span))
        channels.now = channels.now + span
        return 0

    def test_random_decks(self):
        ringed = 0
        for seed in range(200):
            die = dice(seed)
            deck, channels = Deck(), Channels()
            for _ in range(die.randrange(3, 16)):
                if die.random() < 0.5:
                    name = die.choice(self.names)
                    thing, same = self.random_thing(die)
                    deck[name] = thing
                    channels.set(name, same)
                else:
                    span = Fraction(die.choice([0, 1, 1, 2, 3]), die.choice([1, 1, 2, 3]))
                    ringed = ringed + self.play_on(deck, channels, span)
            self.assertEqual(fraction(deck.now), channels.now)
            for name in deck.names():
                self.check_channel(die, deck, channels, name, seed)
        self.assertGreater(ringed, 20)

    def check_channel(self, die, deck, channels, name, seed):
        low = Fraction(die.randrange(-4, 8), 2)
        high = low + Fraction(die.randrange(1, 20), 2)
        found = deck.played(name, moment(low), moment(high))
        self.assertEqual(found, joined(found))
        low, high = max(low, Fraction(0)), min(high, channels.now)
        self.assertTrue(all(low <= fraction(mark.start) and fraction(mark.stop) <= high for mark in found))
        for _ in range(10 if low < high else 0):
            t = between(die, low, high)
            self.assertEqual(reading_at(found, t), channels.shown(name, t), (seed, name, t))


class LargeDecks(DeckCase):
    """Twelve channels and sixty rounds."""

    letters = "abcdefghijkl"

    def test_a_chain(self):
        deck = Deck()
        deck["a"] = Tune(1, [Mark(k % 7, Moment(k, 100), Moment(k + 1, 100)) for k in range(100)])
        for before, name in zip(self.letters, self.letters[1:]):
            deck[name] = Piece.named(before) + 1 >> Moment(1, 60)
        self.play(deck, 60)
        self.assertEqual([len(deck), deck.now], [12, 60])
        expected = [Mark(m.tone + 11, m.begin + Moment(11, 60), m.end + Moment(11, 60)) for m in deck.played("a", 50, 51)]
        self.assertEqual(deck.played("l", 50 + Moment(11, 60), 51 + Moment(11, 60)), expected)
        self.assertEqual(len(deck.played("l", 0, 60)), 100 * 59 + 82)

    def test_a_long_ring_with_delays(self):
        deck = Deck()
        for before, name in zip(self.letters[-1] + self.letters, self.letters):
            deck[name] = Piece.named(before) + 1 >> Moment(1, 60)
        deck["a"] = deck["a"] | Piece.named("seed")
        deck["seed"] = Tune(60, [Mark(0, 0, Moment(1, 60))])
        self.play(deck, 60)
        # A mark goes round in 12/60, and 300 times in all.
        self.assertEqual(len(deck.played("a", 0, 60)), 300)
        self.assertEqual(told(deck.played("l", 59, 60))[-1], "3599 3599/60 60 3599/60 60")
        with self.assertRaises(Ringed) as caught:
            for before, name in zip(self.letters[-1] + self.letters, self.letters):
                deck[name] = Piece.named(before)
            self.play(deck, 1)
        self.assertEqual(caught.exception.ring, ["a", *self.letters[:0:-1]])

    def test_channels_that_all_ask_themselves(self):
        deck = Deck()
        deck["seed"] = Tune(60, [Mark(k, Moment(k, 4), Moment(k, 4) + 1) for k in range(6)])
        for name in self.letters[1:]:
            deck[name] = Piece.named("seed") | (Piece.named(name) >> Moment(5, 4))
        self.play(deck, 60)
        for name in ("b", "l"):
            self.assertEqual(deck.played(name, 0, 60), deck.played("c", 0, 60))
        self.assertEqual(len([mark for mark in deck.played("b", 0, 60) if mark.tone == 0]), 48)

    def test_long_marks_of_a_channel_that_asks_itself(self):
        deck = Deck()
        deck["a"] = Tune(60, [Mark(0, 0, Moment(3, 2))])
        deck["b"] = A | (B + 1 >> Moment(1, 60))
        for name in self.letters[2:]:
            deck[name] = B.only(0, HALF) | (B >> HALF).only(HALF, 1)
        self.play(deck, 4)
        expected = [Mark(k, Moment(k, 60), Moment(k + 90, 60), stop=min(k + 90, 240) * Moment(1, 60)) for k in range(240)]
        self.assertEqual(deck.played("b", 0, 4), expected)
        for name in "cl":
            self.assertEqual(deck.played(name, 0, 4), deck["c"].over({"b": expected}, 0, 4))

    def test_a_chart_of_three_hundred_cells(self):
        rows = ["rounds 48"]
        for k in range(300):
            begin = Moment(48 * k, 300)
            rows.append(f"cell {begin} {begin + Moment(48, 300)} {'0111' if k % 2 else '0110'}")
            rows.append(f"route a {k % 3} 1 {begin - k % 5} 1")
            rows.append(f"route b 1 1 {begin - 1 - k % 3} 1")
        piece = Chart.read("\n".join(rows)).piece()
        marks = [Mark(k % 4, Moment(k, 20), Moment(k + 3, 20)) for k in range(60)]
        deck = deck_of(a=Tune(3, marks), b=piece)
        self.play(deck, 60)
        channels = Channels()
        channels.set("a", tune_pattern(3, marks))
        channels.set("b", chart(piece))
        found = deck.played("b", 0, 60)
        die = dice(2)
        for _ in range(20):
            t = between(die, Fraction(0), Fraction(60))
            self.assertEqual(reading_at(found, t), channels.shown("b", t))

    def test_many_settings(self):
        deck = Deck()
        for k in range(60):
            deck.change([(name, Tune(1, [Mark(k, 0, 1)]) if name == "a" else A >> 1) for name in self.letters])
            self.play(deck, 1)
        self.assertEqual([mark.tone for mark in deck.played("l", 0, 60)], list(range(59)))
        self.assertEqual([mark.tone for mark in deck.played("a", 0, 60)], list(range(60)))

    def test_long_numbers(self):
        late = Moment(LONG - 1, LONG)
        deck = deck_of(a=Tune(3, [Mark(LONG, 0, late, stop=Moment(1, LONG))]), b=(A + LONG >> late) | (B >> 2 - late))
        self.play(deck, 3)
        self.assert_played(deck, "b", 0, 1, f"{2 * LONG} {late} {2 * late} {late} 1")


if __name__ == "__main__":
    unittest.main()
