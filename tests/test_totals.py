import random
import unittest
from fractions import Fraction

from asked_tests import AskedTests
from by_hand import (
    ANEW, EVERY, FAR, ODD, SHIFTS, SWITCH, Case, Equal, answers, loop_of, some_loop, steps, texts_of, turnings)
from samples import JUST_600, KINDS, ROUNDS, Rings, samples
from wherebegun.begun import spread, spreads
from wherebegun.errors import InvalidNumber
from wherebegun.kinds import Kind
from wherebegun.loops import Loop
from wherebegun.rings import Ring
from wherebegun.totals import pace_spread, total_spread

NO_TOTALS = (
    0, -1, 31, 32, FAR, -FAR, None, True, False, "1", "", b"1", (), (1,), [1], {}, SHIFTS, EVERY, Ring("a"), Equal())


def total_in(rounds):
    def measure(near, far):
        totals = [sum(count for count, _ in told[:rounds]) for told in near]
        return max(totals) - min(totals)
    return measure


def pace_by_hand(loop, text):
    """The mean of the counts between two rounds ahead of which the state is the same."""
    told = steps(loop, text, 2 * len(loop.states))
    states = [loop.states[0]] + [state for _, _, state in told]
    first = {}
    for lap, state in enumerate(states):
        if state in first:
            counts = [count for count, _, _ in told[first[state]:lap]]
            return Fraction(sum(counts), len(counts))
        first[state] = lap


def greatest_pace_difference(loop, kind, length):
    found = [0]
    for size in range(1, length + 1):
        for text in texts_of(kind, size):
            paces = [pace_by_hand(loop, turning) for turning in turnings(text)]
            found.append(max(paces) - min(paces))
    return max(found)


class ExamplesTest(Case):
    def test_examples_of_the_document(self):
        odd, switch, every, shifts = ODD, SWITCH, EVERY, SHIFTS
        self.assertEqual(
            [total_spread(odd, switch, 1), total_spread(odd, switch, 2), total_spread(odd, switch, 3),
             pace_spread(odd, switch), pace_spread(odd, every), total_spread(shifts, every, 30)],
            [1, 0, 1, (0, 1), None, 1])


class TotalSpreadTest(Case):
    def test_against_all_rings_of_few_signs(self):
        found = []
        for loop, _, kind, rings in samples():
            for rounds in (1, 2, 3, 5, ROUNDS):
                value = total_spread(loop, kind, rounds)
                self.assertTrue(rings.is_greatest(value, total_in(rounds)), (loop.row, kind.row, rounds, value))
                found.append(value)
        self.assertTrue({None, 0, 1, 2, 3} <= set(found), set(found))

    def test_all_numbers_of_rounds(self):
        for loop, _, kind, _ in [sample for sample in samples() if len(sample[2].signs) < 3][::4]:
            rings = Rings(kind, lambda text: ([answers(loop, turning, 30) for turning in turnings(text)], None))
            for rounds in range(1, 31):
                value = total_spread(loop, kind, rounds)
                self.assertTrue(rings.is_greatest(value, total_in(rounds)), (loop.row, kind.row, rounds, value))

    def test_the_total_of_one_round_is_its_count(self):
        for loop, _, kind, _ in samples():
            self.assertEqual(total_spread(loop, kind, 1), spread(loop, kind, 1))

    def test_differences_that_add_up_and_that_make_up(self):
        # From each place but those behind a sign b the first sign is read by p in each round.
        self.assertEqual([total_spread(ANEW, EVERY, rounds) for rounds in (1, 2, 17, 30)], [1, 2, 17, 30])
        self.assertEqual([total_spread(ODD, SWITCH, rounds) for rounds in range(1, 9)], [1, 0] * 4)
        self.assertEqual([total_spread(SHIFTS, EVERY, rounds) for rounds in range(1, 31)], [1] * 30)

    def test_first_rounds_that_do_not_come_again(self):
        # Only the first sign of a round counts: 1 for an a in the first round, 10 in the second one, then 100.
        loop = loop_of({"a": "stustu", "b": "stustu"}, {"a": (1, 10, 100, 0, 0, 0), "b": (0,) * 6}, "pqrqrr")
        self.assertEqual(spreads(loop, EVERY), ((1, 10), (100,)))
        self.assertEqual(
            [total_spread(loop, EVERY, rounds) for rounds in range(1, 31)],
            [1, 11] + [11 + 100 * times for times in range(1, 29)])
        self.assertEqual(pace_spread(loop, EVERY), (100, 1))

    def test_no_bound_in_some_rounds_together(self):
        # In the first round there is no bound, in both together there is.
        loop = loop_of({"a": "qp", "b": "pq"}, {"a": (0, 0), "b": (1, -1)}, "qp")
        for kind in (EVERY, Kind("ab", ("ab", "ba", "bb"))):
            values = [total_spread(loop, kind, rounds) for rounds in range(1, 7)]
            told = [[answers(loop, turning, 6) for turning in turnings(text)]
                    for length in range(1, 10) for text in texts_of(kind, length)]
            for rounds, value in enumerate(values, start=1):
                found = max(total_in(rounds)(near, None) for near in told)
                self.assertTrue(value is None or value == found, (rounds, value, found))
            self.assertIsNone(values[0])

    def test_six_states(self):
        source = random.Random(6)
        for _ in range(12):
            loop = some_loop(source, "ab", 6, 2)
            told = [[answers(loop, turning, 30) for turning in turnings("ab" * times)] for times in range(1, 26)]
            for rounds in (1, 4, 7, 29, 30):
                value = total_spread(loop, SWITCH, rounds)
                found = [total_in(rounds)(near, None) for near in told]
                if value is None:
                    self.assertGreater(max(found), max(found[:12]))
                else:
                    self.assertEqual(value, max(found))

    def test_just_600_stands(self):
        self.assertEqual([total_spread(JUST_600, EVERY, rounds) for rounds in (1, 30)], [None, None])
        self.assertIsNone(pace_spread(JUST_600, EVERY))
        still = Loop("ab", JUST_600.states, tuple(row[:3] + (2,) for row in JUST_600.rows), JUST_600.turns)
        self.assertEqual((total_spread(still, EVERY, 30), pace_spread(still, EVERY)), (0, (0, 1)))


class PaceSpreadTest(Case):
    def test_against_all_rings_of_few_signs(self):
        found = []
        for loop, _, kind, rings in samples():
            value = pace_spread(loop, kind)
            for length in rings.lengths:
                most = greatest_pace_difference(loop, kind, length)
                if value is None:
                    reached = most > greatest_pace_difference(loop, kind, length // 2)
                else:
                    self.assertEqual([type(value), type(value[0]), type(value[1])], [tuple, int, int])
                    self.assertLessEqual(most, Fraction(*value))
                    reached = (most.numerator, most.denominator) == value
                if reached:
                    break
            self.assertTrue(reached, (loop.row, kind.row, value))
            found.append(value)
        self.assertTrue({None, (0, 1), (1, 1)} <= set(found), set(found))

    def test_fractions_in_lowest_terms(self):
        # From p two rounds come again, from the others one: the loop counts 1 in one of the two.
        loop = loop_of({"a": "qrr", "b": "rrr"}, {"a": (0, 0, 0), "b": (0, 0, 0)}, "ppq", (0, 1, 0))
        source = random.Random(2)
        found = set()
        for loop in [loop] + [some_loop(source, "ab", source.choice((3, 4, 5)), 1) for _ in range(150)]:
            value = pace_spread(loop, SWITCH)
            told = [max(abs(pace_by_hand(loop, "ab" * times) - pace_by_hand(loop, "ba" * times)) for times in reach)
                    for reach in (range(1, 14), range(1, 27))]
            if value is None:
                self.assertGreater(told[1], told[0])
            else:
                self.assertEqual(value, (told[1].numerator, told[1].denominator))
                found.add(value[1])
        self.assertTrue({1, 2, 3} <= found, found)

    def test_periods_that_are_not_alike(self):
        # Begun at the one place it comes again after each round, at the other one after two.
        source = random.Random(8)
        found = 0
        for _ in range(300):
            loop = some_loop(source, "ab", 4, 1)
            periods = {len(set(told)) for told in [[loop.state(text, 20 + lap) for lap in range(12)]
                                                   for text in ("ab", "ba")]}
            if len(periods) > 1:
                found += 1
                value = pace_spread(loop, SWITCH)
                difference = abs(pace_by_hand(loop, "ab") - pace_by_hand(loop, "ba"))
                self.assertTrue(value is None or Fraction(*value) >= difference)
        self.assertGreater(found, 5)

    def test_no_two_paces_differ(self):
        for kind in KINDS:
            self.assertEqual(pace_spread(loop_of({"a": "p", "b": "p"}, {"a": (5,), "b": (2,)}), kind), (0, 1))
        self.assertEqual([pace_spread(SHIFTS, EVERY), pace_spread(ODD, Kind("a"))], [(0, 1), (0, 1)])
        self.assertEqual(pace_spread(ANEW, EVERY), (1, 1))

    def test_the_first_rounds_do_not_count(self):
        # Only the first round has another count from place to place, and it has no bound.
        loop = loop_of({"a": "qpr", "b": "pqr"}, {"a": (0, 0, 0), "b": (0, 1, 0)}, "rrr")
        self.assertEqual((spreads(loop, EVERY), pace_spread(loop, EVERY)), (((None,), (0,)), (0, 1)))


class NumbersTest(Case):
    def test_numbers_that_are_right(self):
        for rounds in range(1, 31):
            self.assertEqual(total_spread(SHIFTS, EVERY, rounds), 1)

    def test_numbers_that_are_wrong(self):
        for value in NO_TOTALS:
            self.refuses(InvalidNumber, value, lambda: total_spread(SHIFTS, EVERY, value))
            self.refuses(InvalidNumber, value, lambda: total_spread(loop=SHIFTS, kind=EVERY, rounds=value))


class ErrorsTest(AskedTests, Case):
    ASKED = (
        (total_spread, ("loop", "kind", "rounds"), (SHIFTS, EVERY, 30)), (pace_spread, ("loop", "kind"), (ANEW, EVERY)))
    WRONG = {"rounds": (InvalidNumber, NO_TOTALS)}


if __name__ == "__main__":
    unittest.main()
