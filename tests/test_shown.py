import random
import unittest

from asked_tests import AskedTests
from by_hand import (
    ANEW, EVERY, FAR, NAMES, ODD, SHIFTS, SWITCH, Case, is_of, leads, loop_of, some_loop, steps, texts_of, turnings)
from samples import JUST_600, KINDS, samples
from wherebegun.begun import matters, spread
from wherebegun.kinds import Kind
from wherebegun.loops import Loop
from wherebegun.shown import pumped, shortest, widest

LAPS = (1, 2, 3, 7)


def counted(loop, text, lap):
    """The count of this round, run by hand; with up to three states the rounds from 3 on come again after 6."""
    return steps(loop, text, lap if lap < 100 else 6 + lap % 6)[-1][0]


def differing_at_first(rings, lap):
    """The least number of signs of the rings with unlike answers, among those written out."""
    for length in range(1, rings.lengths[0] + 1):
        if any(len({answer[lap - 1] for answer in near}) > 1 for near, far in rings.of_length(length)):
            return length
    return None


class ShownCase(Case):
    def are_turnings(self, pair, kind):
        self.assertEqual([type(pair), len(pair)], [tuple, 2])
        one, other = pair
        self.assertEqual([type(one), type(other)], [str, str])
        self.assertTrue(1 <= len(one) <= 600)
        self.assertIn(other, turnings(one))
        self.assertTrue(is_of(one, kind.signs, kind.pairs))


class WidestTest(ShownCase):
    def check(self, loop, kind, lap):
        most = spread(loop, kind, lap)
        pair = widest(loop, kind, lap)
        if most is None:
            self.assertIsNone(pair)
        else:
            self.are_turnings(pair, kind)
            self.assertEqual(counted(loop, pair[0], lap) - counted(loop, pair[1], lap), most)
        return most

    def test_the_counts_differ_by_the_spread(self):
        found = [self.check(loop, kind, lap) for loop, _, kind, _ in samples() for lap in LAPS]
        self.assertTrue({None, 0, 1, 2, 3} <= set(found), set(found))

    def test_far_rounds(self):
        for loop, _, kind, _ in samples()[::4]:
            for lap in (FAR, FAR + 1, FAR + 5):
                self.check(loop, kind, lap)

    def test_nothing_differs(self):
        still = loop_of({"a": "p", "b": "p"}, {"a": (3,), "b": (-4,)})
        for kind in KINDS:
            for lap in (1, 5, FAR):
                self.are_turnings(widest(still, kind, lap), kind)
                self.assertEqual(spread(still, kind, lap), 0)

    def test_the_greatest_difference_is_that_of_a_long_ring_alone(self):
        # The run of signs a counts more and more up to six of them, then the rest counts against it.
        loop = loop_of({"a": "qrstuu", "b": "pppppp"}, {"a": (1, 1, 1, 1, 1, -1), "b": (0,) * 6}, "pppppp")
        most = spread(loop, EVERY, 1)
        one, other = widest(loop, EVERY, 1)
        self.assertEqual(loop.answer(one, 1)[0] - loop.answer(other, 1)[0], most)
        self.assertEqual(most, max(
            max(counts) - min(counts) for length in range(1, 13) for text in texts_of(EVERY, length)
            for counts in [[counted(loop, turning, 1) for turning in turnings(text)]]))

    def test_turns_that_tell_which_is_greatest(self):
        source = random.Random(11)
        found = set()
        for _ in range(200):
            loop = some_loop(source, "ab", source.choice((2, 3)), 1)
            turns = tuple((state, further, source.randint(-4, 4)) for state, further, _ in loop.turns)
            loop = Loop("ab", loop.states, loop.rows, turns)
            found.add(self.check(loop, source.choice(KINDS), source.choice(LAPS)))
        self.assertTrue({None, 0, 1, 2, 3, 4, 5, 6, 7} <= found, found)

    def test_no_ring_of_fewer_signs_has_the_spread(self):
        # It is so that no word is longer than it need be: then it has at most 600 signs, if any has.
        for loop, _, kind, rings in samples():
            for lap in LAPS:
                pair = widest(loop, kind, lap)
                if pair is not None and len(pair[0]) <= rings.lengths[0]:
                    self.assertEqual(len(pair[0]), self.first_with(rings, lap, spread(loop, kind, lap)))

    def first_with(self, rings, lap, most):
        for length in range(2, rings.lengths[0] + 1):
            for near, _ in rings.of_length(length):
                counts = [answer[lap - 1][0] for answer in near]
                if max(counts) - min(counts) == most:
                    return length

    def test_just_600_stands(self):
        self.assertIsNone(widest(JUST_600, EVERY, 1))
        still = Loop("ab", JUST_600.states, tuple(row[:3] + (0,) for row in JUST_600.rows), JUST_600.turns)
        self.are_turnings(widest(still, EVERY, 3), EVERY)


class ShortestTest(ShownCase):
    def check(self, loop, kind, lap):
        pair = shortest(loop, kind, lap)
        if matters(loop, kind, lap):
            self.are_turnings(pair, kind)
            self.assertNotEqual(loop.answer(pair[0], lap), loop.answer(pair[1], lap))
        else:
            self.assertIsNone(pair)
        return pair

    def test_no_ring_of_fewer_signs_has_unlike_answers(self):
        found = []
        for loop, _, kind, rings in samples():
            for lap in LAPS:
                pair = self.check(loop, kind, lap)
                first = differing_at_first(rings, lap)
                if first is None:
                    self.assertTrue(pair is None or len(pair[0]) > rings.lengths[0])
                else:
                    self.assertEqual(len(pair[0]), first)
                found.append(first)
        self.assertTrue({None, 2, 3} <= set(found), set(found))

    def test_answers_that_differ_in_what_is_said_alone(self):
        loop = loop_of({"a": "qqr", "b": "rqr"}, None, None, None, "q")
        self.assertEqual(sorted(shortest(loop, EVERY, 1)), ["ab", "ba"])
        self.assertEqual(spread(loop, EVERY, 1), 0)

    def test_a_second_word_of_a_stand_is_needed(self):
        # The words a, aa, aaa .. have one stand, and the count is another one only from aaab on.
        loop = loop_of({"a": "qrrr", "b": "ssss"}, {"a": (0, 0, 0, 0), "b": (0, 0, 1, 0)}, "pppp")
        for lap in (1, 2, 9):
            pair = self.check(loop, EVERY, lap)
            self.assertEqual(len(pair[0]), 3)
        three = loop_of(
            {"a": "qrstuu", "b": "pppppp"}, {"a": (0,) * 6, "b": (0, 0, 0, 0, 0, 1)}, "pppppp")
        self.assertEqual(len(self.check(three, EVERY, 1)[0]), 6)

    def test_far_rounds(self):
        for loop, _, kind, _ in samples()[::4]:
            for lap in (FAR, FAR + 1, FAR + 5):
                pair = self.check(loop, kind, lap)
                near = shortest(loop, kind, 6 + lap % 6)
                self.assertEqual(pair is None or len(pair[0]), near is None or len(near[0]))

    def test_where_it_does_not_matter(self):
        self.assertEqual([shortest(SHIFTS, EVERY, lap) for lap in (2, 3, FAR)], [None] * 3)
        self.assertEqual(shortest(ODD, Kind("a"), 1), None)
        self.assertEqual(len(shortest(SHIFTS, EVERY, 1)[0]), 3)
        self.assertEqual(len(shortest(ANEW, EVERY, FAR)[0]), 3)

    def test_just_600_stands(self):
        pair = self.check(JUST_600, EVERY, 2)
        rings = [texts_of(EVERY, length) for length in range(1, len(pair[0]))]
        for text in [text for texts in rings for text in texts]:
            self.assertEqual(len({JUST_600.answer(turning, 2) for turning in turnings(text)}), 1)


class PumpedTest(Case):
    def check(self, loop, kind, lap):
        found = pumped(loop, kind, lap)
        self.assertIs(found is None, spread(loop, kind, lap) is not None)
        if found is not None:
            self.assertEqual([type(found), len(found)], [tuple, 4])
            self.assertEqual({type(part) for part in found}, {str})
            x, y, z, v = found
            self.assertTrue(x and y and v)
            self.assertLessEqual(len(x + y * 2 + z + v), 600)
            self.assertEqual(x[-1], y[-1])
            self.assertEqual(leads(loop, x), leads(loop, x + y))
            told = []
            for k in (1, 2, 3, 4, 9):
                text = x + y * k + z
                self.assertTrue(is_of(text + v, kind.signs, kind.pairs))
                told.append((k, counted(loop, text + v, lap) - counted(loop, v + text, lap)))
            step = told[1][1] - told[0][1]
            self.assertNotEqual(step, 0)
            self.assertEqual(told, [(k, told[0][1] + step * (k - 1)) for k, _ in told])
        return found

    def test_the_conditions_one_by_one(self):
        found = [self.check(loop, kind, lap) for loop, _, kind, _ in samples() for lap in LAPS]
        self.assertGreater(len([words for words in found if words is not None]), 20)
        self.assertGreater(len([words for words in found if words is None]), 20)

    def test_more_loops(self):
        source = random.Random(4)
        for _ in range(150):
            kind = source.choice(KINDS)
            self.check(some_loop(source, "ab", source.choice((2, 3)), 2), kind, source.choice((1, 2, 3)))

    def test_a_piece_behind_the_one_that_is_repeated(self):
        behind = loop_of({"a": "qq", "b": "pq"}, {"a": (0, 1), "b": (1, -1)}, "pp", (0, -1))
        self.assertEqual(bool(self.check(behind, EVERY, 1)[2]), True)
        behind = loop_of({"a": "qpq", "b": "qrp"}, {"a": (1, 1, 1), "b": (0, -1, 0)}, "ppr", (-1, 0, 0), "q")
        self.assertEqual(bool(self.check(behind, SWITCH, 3)[2]), True)
        self.assertEqual(self.check(ODD, EVERY, 1)[2], "")

    def test_pieces_that_are_looked_for(self):
        # The first stand without a bound is no part of a circle, or it does not lead to the stand that is asked for.
        for loop, kind, lap in (
                (loop_of({"a": "rrp", "b": "qqr", "c": "prq"}, {"a": (1, 0, -1), "b": (-1, -1, 1), "c": (-1, 1, 1)},
                         "qpr"), Kind("abc", ("ab", "ba", "bc", "cb")), 1),
                (loop_of({"a": "sqqp", "b": "rqqs"}, {"a": (0, -1, 0, 0), "b": (1, 1, -1, -1)}, "pqpq", (0, 0, 0, -1)),
                 Kind("ab", ("ab", "ba", "bb")), 2),
                (loop_of({"a": "rqq", "b": "qqr"}, {"a": (1, 0, 0), "b": (-1, -1, 0)}, "pqp"), EVERY, 2)):
            self.assertIsNotNone(self.check(loop, kind, lap))

    def test_a_piece_by_which_it_grows_or_falls(self):
        steps_up = loop_of({"a": "pq", "b": "qp"}, {"a": (1, 0), "b": (0, 0)}, "pp")
        for loop in (steps_up, -steps_up, ODD, -ODD):
            for kind in (EVERY, Kind("ab", ("aa", "ab", "ba"))):
                for lap in (1, 2, FAR):
                    self.check(loop, kind, lap)

    def test_far_rounds(self):
        for loop, _, kind, _ in samples()[::4]:
            for lap in (FAR, FAR + 1, FAR + 5):
                self.check(loop, kind, lap)

    def test_without_a_bound_in_some_rounds_only(self):
        loop = loop_of({"a": "pqr", "b": "qqr"}, {"a": (1, 0, 1), "b": (1, 0, 0)}, "qrp", (0, -1, 0))
        self.assertEqual(
            [self.check(loop, EVERY, lap) is None for lap in (1, 2, 3, 4)], [False, True, False, True])

    def test_with_a_bound(self):
        for kind in KINDS:
            self.assertIsNone(pumped(loop_of({"a": "p", "b": "p"}, {"a": (9,), "b": (-9,)}), kind, 1))
        self.assertIsNone(pumped(ODD, SWITCH, FAR))

    def test_a_long_piece(self):
        # Six states gone through in a row: only a whole round of them adds something at the one end alone.
        loop = loop_of({"a": "qrstup", "b": NAMES}, {"a": (0, 0, 0, 0, 0, 1), "b": (1, 0, 0, 0, 0, 0)}, NAMES)
        for lap in (1, 2, 6):
            self.check(loop, EVERY, lap)

    def test_just_600_stands(self):
        for lap in (1, 2, 3):
            self.check(JUST_600, EVERY, lap)


class ErrorsTest(AskedTests, Case):
    ASKED = (
        (widest, ("loop", "kind", "lap"), (SHIFTS, EVERY, 1)), (shortest, ("loop", "kind", "lap"), (SHIFTS, EVERY, 1)),
        (pumped, ("loop", "kind", "lap"), (ODD, EVERY, 1)))


if __name__ == "__main__":
    unittest.main()
