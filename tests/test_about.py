import random
import unittest

from asked_tests import AskedTests
from by_hand import (
    EVERY, FAR, ODD, SHIFTS, SWITCH, Case, answers, leads, loop_of, number_of_stands, some_loop, texts_of, turnings,
    words)
from samples import JUST_600, ROUNDS, Rings, from_all_places, opposite, samples
from wherebegun.about import about
from wherebegun.begun import spread
from wherebegun.errors import TooMany
from wherebegun.kinds import Kind
from wherebegun.needed import stands_back
from wherebegun.rings import Ring

LAPS = (1, 2, 3, 7)
# They have just 600 stands and just 601, gone round both ways.
BOTH_600 = loop_of({"a": "trstq", "b": "trqrp"}, {"a": (0, 1, 0, 0, 0), "b": (0, 0, 0, 2, 0)}, "qqqqq")
BOTH_601 = loop_of({"a": "sprst", "b": "stqts", "c": "pqsrt"})
ROUND_ABC = Kind("abc", ("aa", "ab", "bc", "ca"))


def both_ways(loop, kind):
    """For each ring the answers from each place, and those of the other way round from each place."""
    def tell(text):
        back = [answers(loop, turning[::-1], ROUNDS) for turning in turnings(text)]
        return from_all_places(loop, text), back
    return Rings(kind, tell)


def greater_in(lap):
    def measure(near, back):
        return max(told[lap - 1][0] for told in near) - min(told[lap - 1][0] for told in back)
    return measure


def less_in(lap):
    def measure(near, back):
        return max(told[lap - 1][0] for told in back) - min(told[lap - 1][0] for told in near)
    return measure


def stands_by_hand(loop, kind, most):
    """The stands (map, map of the word from behind, first sign, last sign) of all words of up to so many signs."""
    found = set()
    for length in range(1, most + 1):
        for word in words(kind.signs, length):
            if all(word[at:at + 2] in kind.pairs for at in range(length - 1)):
                found.add((tuple(leads(loop, word)), tuple(leads(loop, word[::-1])), word[0], word[-1]))
    return found


def number_of_stands_back(loop, kind):
    """How many such stands there are, by one sign more and one more."""
    table = {(state, sign): further for state, sign, further, _ in loop.rows}
    waiting = []
    for sign in kind.signs:
        told = {state: table[state, sign] for state in loop.states}
        waiting.append((told, told, sign, sign))
    found = set()
    while waiting:
        near, back, first, last = waiting.pop()
        stand = (tuple(near.values()), tuple(back.values()), first, last)
        if stand not in found:
            found.add(stand)
            for sign in [sign for sign in kind.signs if last + sign in kind.pairs]:
                more = {state: table[near[state], sign] for state in loop.states}
                more_back = {state: back[table[state, sign]] for state in loop.states}
                waiting.append((more, more_back, first, sign))
    return len(found)


class ExamplesTest(Case):
    def test_examples_of_the_document(self):
        shifts, odd, every, switch = SHIFTS, ODD, EVERY, SWITCH
        self.assertEqual([about(shifts, every, 1), about(shifts, every, 2), about(odd, switch, 1)],
                         [(-1, 1), (0, 0), (-1, 1)])


class AboutTest(Case):
    def test_against_all_rings_of_few_signs(self):
        found = []
        for loop, _, kind, _ in samples():
            rings = both_ways(loop, kind)
            for lap in LAPS:
                least, greatest = about(loop, kind, lap)
                self.assertTrue(rings.is_greatest(greatest, greater_in(lap)), (loop.row, kind.row, lap))
                self.assertTrue(rings.is_greatest(opposite(least), less_in(lap)), (loop.row, kind.row, lap))
                found.append((least, greatest))
        self.assertTrue({(None, None), (0, 0), (-1, 1), (-2, 2)} <= set(found), set(found))

    def test_the_ends_need_not_be_opposite(self):
        source = random.Random(5)
        found = []
        for _ in range(60):
            kind = Kind("abc", ("ab", "bc", "ca"))
            loop = some_loop(source, "abc", 2, 2)
            rings = both_ways(loop, kind)
            for lap in (1, 2):
                least, greatest = about(loop, kind, lap)
                self.assertTrue(rings.is_greatest(greatest, greater_in(lap)), (loop.row, lap))
                self.assertTrue(rings.is_greatest(opposite(least), less_in(lap)), (loop.row, lap))
                found.append((least, greatest))
        self.assertTrue([ends for ends in found if None not in ends and ends[0] != -ends[1]])
        self.assertTrue([ends for ends in found if (ends[0] is None) is not (ends[1] is None)])

    def test_rings_that_are_not_of_the_kind_from_behind(self):
        # The pairs that the loop counts are found from behind alone: ba, cb and ac.
        loop = loop_of({"a": "qqqq", "b": "rrrr", "c": "ssss"},
                       {"a": (0, 0, 1, 0), "b": (0, 0, 0, 1), "c": (0, 1, 0, 0)})
        kind = Kind("abc", ("ab", "bc", "ca"))
        for length in (3, 6):
            for text in texts_of(kind, length):
                self.assertNotIn(Ring(text[::-1]), kind)
        self.assertEqual([about(loop, kind, lap) for lap in (1, 2, FAR)], [(None, -2), (None, -3), (None, -3)])
        self.assertEqual([about(-loop, kind, lap) for lap in (1, 2, FAR)], [(2, None), (3, None), (3, None)])

    def test_one_sign_and_one_place(self):
        loop = loop_of({"a": "qq"}, {"a": (2, 0)})
        self.assertEqual([about(loop, Kind("a"), lap) for lap in (1, 2)], [(0, 0), (0, 0)])
        # Each ring ab .. ab read from behind is the ring itself, begun at the other one of two places.
        for loop, _, _, _ in samples():
            if loop.signs == "ab":
                for lap in LAPS:
                    most = spread(loop, SWITCH, lap)
                    self.assertEqual(about(loop, SWITCH, lap), (opposite(most), most))

    def test_far_rounds(self):
        for loop, _, kind, _ in samples()[::3]:
            for far in (FAR, FAR + 1, FAR + 2, FAR + 5, 10 ** 399):
                self.assertEqual(about(loop, kind, far), about(loop, kind, 6 + far % 6))

    def test_six_states(self):
        six = loop_of({sign: "pqrstu" for sign in "ab"}, {"a": (1,) * 6, "b": (2,) * 6}, "qrstup", (0, 0, 0, 0, 7, 0))
        self.assertEqual([about(six, EVERY, lap) for lap in (1, 5, FAR)], [(0, 0)] * 3)
        anew = loop_of({"a": "qqqrrr", "b": "rrrqqq"}, {"a": (0, 0, 1, 0, 0, 2), "b": (0,) * 6}, "pppppp")
        rings = both_ways(anew, SWITCH)
        for lap in (1, 2):
            least, greatest = about(anew, SWITCH, lap)
            self.assertTrue(rings.is_greatest(greatest, greater_in(lap)))
            self.assertTrue(rings.is_greatest(opposite(least), less_in(lap)))


class StandsTest(Case):
    def test_the_stands_with_both_maps(self):
        for loop, _, kind, _ in samples()[::2]:
            stands = stands_back(loop, kind)
            told = stands_by_hand(loop, kind, 7)
            self.assertEqual(len(set(stands.found)), len(stands.found))
            self.assertTrue({tuple(stand) for stand in told} <= set(self.named(loop, stands)))
            if told == stands_by_hand(loop, kind, 6):
                self.assertEqual(told, set(self.named(loop, stands)))

    def named(self, loop, stands):
        return [(tuple(loop.states[at] for at in one), tuple(loop.states[at] for at in other), first, last)
                for one, other, first, last in stands.found]

    def test_more_than_600_stands_the_other_way_round_alone(self):
        self.assertEqual(number_of_stands([JUST_600], EVERY), 600)
        self.refuses(TooMany, 600, lambda: about(JUST_600, EVERY, 1), "limit")
        self.assertIsNone(spread(JUST_600, EVERY, 1))
        self.assertEqual(about(JUST_600, Kind("a"), FAR), (0, 0))

    def test_just_600_stands(self):
        self.assertEqual(number_of_stands_back(BOTH_600, EVERY), 600)
        rings = both_ways(BOTH_600, EVERY)
        for lap in (1, 2):
            least, greatest = about(BOTH_600, EVERY, lap)
            self.assertTrue(rings.is_greatest(greatest, greater_in(lap)))
            self.assertTrue(rings.is_greatest(opposite(least), less_in(lap)))

    def test_just_601_stands(self):
        self.assertEqual(number_of_stands_back(BOTH_601, ROUND_ABC), 601)
        # It adds nothing, so that the answer could be told without the stands.
        self.refuses(TooMany, 600, lambda: about(BOTH_601, ROUND_ABC, 1), "limit")
        self.assertEqual(spread(BOTH_601, ROUND_ABC, 1), 0)
        self.assertEqual(about(BOTH_601, EVERY, 1), (0, 0))


class ErrorsTest(AskedTests, Case):
    ASKED = ((about, ("loop", "kind", "lap"), (SHIFTS, EVERY, 1)),)


if __name__ == "__main__":
    unittest.main()
