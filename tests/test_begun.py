import random
import unittest

from asked_tests import AskedTests
from by_hand import (
    ANEW, EVERY, FAR, ODD, SHIFTS, SWITCH, Case, answers, is_of, loop_of, number_of_stands, some_loop, texts_of,
    turnings)
from samples import (
    FIRST_OF_600, FIRST_OF_604, JUST_600, JUST_601, KINDS, LAPS, ROUNDS, SECOND_OF_600, SECOND_OF_604, opposite,
    rings_of_two, samples)
from wherebegun.begun import (
    alike, alike_anywhere, any_place, count_range, disagrees, matters, same_place, settles, spread, spreads, unlike)
from wherebegun.errors import NoRing, OtherSigns, TooMany
from wherebegun.kinds import Kind
from wherebegun.loops import Loop
from wherebegun.rings import Ring


def counts(told, lap):
    return [answer[lap - 1][0] for answer in told]


def spread_in(lap):
    return lambda near, far: max(counts(near, lap)) - min(counts(near, lap))


def same_in(lap, later):
    return lambda near, far: max(one - other for one, other in zip(counts(near, lap), counts(far, later)))


def any_in(lap, later):
    return lambda near, far: max(counts(near, lap)) - min(counts(far, later))


def same_in_swapped(lap, later):
    return lambda near, far: same_in(later, lap)(far, near)


def any_in_swapped(lap, later):
    return lambda near, far: any_in(later, lap)(far, near)


class ExamplesTest(Case):
    def test_examples_of_the_document(self):
        shifts, anew, odd, every, switch = SHIFTS, ANEW, ODD, EVERY, SWITCH
        self.assertEqual(
            [spread(shifts, every, 1), spread(shifts, every, 2), spreads(shifts, every), settles(shifts, every),
             spreads(anew, every), settles(anew, every)],
            [1, 0, ((1,), (0,)), 1, ((), (1,)), None])
        self.assertEqual(
            [count_range(shifts, every, 1), spread(odd, every, 1), spread(odd, switch, 10 ** 30),
             disagrees(odd, every, 1), any_place(shifts, anew, every, 2), same_place(odd, odd, switch, 1, later=2)],
            [(0, None), None, 1, False, (0, 1), (-1, 1)])
        self.assertEqual(
            [alike(shifts, anew, every), alike(odd, odd, every), unlike(odd, odd, every), settles(odd, Kind("a"))],
            [False, True, None, 0])


class AllRingsTest(Case):
    def test_count_range(self):
        for one, other, kind, rings in samples():
            for lap in (1, 2, 3, 9):
                least, greatest = count_range(one, kind, lap)
                self.assertTrue(rings.is_greatest(greatest, lambda near, far: max(counts(near, lap))))
                self.assertTrue(rings.is_greatest(opposite(least), lambda near, far: -min(counts(near, lap))))

    def test_spread(self):
        for one, other, kind, rings in samples():
            for lap in (1, 2, 3, 4, 9):
                self.assertTrue(rings.is_greatest(spread(one, kind, lap), spread_in(lap)))

    def test_disagrees_and_matters(self):
        for one, other, kind, rings in samples():
            for lap in (1, 2, 3, 4, 9):
                found = rings.holds(lambda near, far: len({answer[lap - 1][1] for answer in near}) > 1)
                self.assertIs(disagrees(one, kind, lap), found)
                found = rings.holds(lambda near, far: len({answer[lap - 1] for answer in near}) > 1)
                self.assertIs(matters(one, kind, lap), found)

    def test_same_place(self):
        for one, other, kind, rings in samples():
            for lap, later in LAPS:
                least, greatest = same_place(one, other, kind, lap, later=later)
                self.assertTrue(rings.is_greatest(greatest, same_in(lap, later)))
                self.assertTrue(rings.is_greatest(opposite(least), same_in_swapped(lap, later)))

    def test_any_place(self):
        for one, other, kind, rings in samples():
            for lap, later in LAPS:
                least, greatest = any_place(one, other, kind, lap, later=later)
                self.assertTrue(rings.is_greatest(greatest, any_in(lap, later)))
                self.assertTrue(rings.is_greatest(opposite(least), any_in_swapped(lap, later)))

    def test_alike(self):
        found = []
        for one, other, kind, rings in samples():
            differ = rings.holds(lambda near, far: near != far)
            self.assertIs(alike(one, other, kind), not differ)
            differ_anywhere = rings.holds(lambda near, far: len(set(near + far)) > 1)
            self.assertIs(alike_anywhere(one, other, kind), not differ_anywhere)
            found.append((differ, differ_anywhere))
        self.assertEqual(set(found), {(True, True), (False, True), (False, False)})

    def test_unlike(self):
        for one, other, kind, rings in samples():
            found = unlike(one, other, kind)
            if alike(one, other, kind):
                self.assertIsNone(found)
                continue
            self.assertEqual([type(found), type(found[0]), type(found[1])], [tuple, str, int])
            text, lap = found
            self.assertTrue(is_of(text, kind.signs, kind.pairs))
            self.assertTrue(Ring(text) in kind)
            self.assertNotEqual(one.answer(text, lap), other.answer(text, lap))

    def test_settles(self):
        found = []
        for one, other, kind, rings in samples():
            matter = [rings.holds(lambda near, far: len({answer[lap - 1] for answer in near}) > 1)
                      for lap in range(1, ROUNDS + 1)]
            # With at most three states it matters in none of the rounds 3 .. 8 if it does not for ever.
            told = None if any(matter[2:8]) else max([0] + [lap for lap in (1, 2) if matter[lap - 1]])
            self.assertEqual(settles(one, kind), told)
            self.assertIs(type(settles(one, kind)), type(told))
            found.append(told)
        self.assertGreater(len(set(found)), 2)

    def test_spreads(self):
        for one, other, kind, rings in samples():
            first, again = spreads(one, kind)
            self.assertEqual([type(first), type(again)], [tuple, tuple])
            told = [spread(one, kind, lap) for lap in range(1, 30)]
            self.assertEqual(list(first) + list(again * 30)[:29 - len(first)], told)
            self.assertEqual((first, again), shortest(told))


def shortest(told):
    """The shortest part that comes again and again in the rounds 3 .. and the shortest part ahead of it."""
    period = min(length for length in range(1, 7) if all(told[at] == told[at + length] for at in range(2, 20)))
    head = min(at for at in range(3) if all(told[place] == told[place + period] for place in range(at, 20)))
    return tuple(told[:head]), tuple(told[head:head + period])


class FarRoundsTest(Case):
    def test_far_rounds_are_as_near_ones(self):
        for one, other, kind, _ in samples()[::2]:
            # The rounds from 3 on come again with a period that divides 6.
            for far in (FAR, FAR + 1, FAR + 5, 10 ** 399):
                near = 6 + far % 6
                for function in (count_range, spread, disagrees, matters):
                    self.assertEqual(function(one, kind, far), function(one, kind, near))
                for function in (same_place, any_place):
                    self.assertEqual(function(one, other, kind, far), function(one, other, kind, near))
                    self.assertEqual(
                        function(one, other, kind, 2, later=far), function(one, other, kind, 2, later=near))
                    self.assertEqual(
                        function(one, other, kind, far, later=1), function(one, other, kind, near, later=1))

    def test_six_states(self):
        # Each round goes on by one state more, whatever it reads; each fifth one ends with 7.
        six = loop_of({sign: "pqrstu" for sign in "ab"}, {"a": (1,) * 6, "b": (2,) * 6}, "qrstup", (0, 0, 0, 0, 7, 0))
        self.assertEqual(spreads(six, EVERY), ((), (0,)))
        for far in (FAR, FAR + 1, FAR + 2, FAR + 3, FAR + 4, FAR + 5):
            self.assertEqual(count_range(six, Kind("a", ("aa",)), far), (1 + 7 * (far % 6 == 5), None))
            self.assertEqual(same_place(six, six, EVERY, far, later=far + 1),
                             (7 * (far % 6 == 5) - 7 * (far % 6 == 4),) * 2)

    def test_all_rounds_come_again_after_60(self):
        loop = loop_of(
            {"a": "qptsr", "b": "tqprs"}, {"a": (1, -1, 1, -1, 1), "b": (-1, 0, -1, -1, 0)}, "psqrt", (0, 0, 1, 0, -1),
            "pt")
        # The rings of this kind have but two different turnings.
        told = [(answers(loop, "ab" * times, 130), answers(loop, "ba" * times, 130)) for times in range(1, 61)]
        first, again = spreads(loop, SWITCH)
        self.assertEqual((len(first), len(again)), (0, 60))
        for lap in range(1, 130):
            differences = [abs(one[lap - 1][0] - other[lap - 1][0]) for one, other in told]
            found = spread(loop, SWITCH, lap)
            self.assertEqual(found, again[(lap - 1) % 60])
            if found is None:
                self.assertGreater(max(differences), max(differences[:30]))
            else:
                self.assertEqual(found, max(differences))
            says = any(one[lap - 1][1] != other[lap - 1][1] for one, other in told)
            self.assertIs(disagrees(loop, SWITCH, lap), says)
        for far in (FAR, FAR + 1, FAR + 29, FAR + 59):
            self.assertEqual(spread(loop, SWITCH, far), again[(far - 1) % 60])
            self.assertEqual(count_range(loop, SWITCH, far), count_range(loop, SWITCH, 60 + far % 60))


class SpreadsTest(Case):
    def test_a_first_part_and_a_period(self):
        found = set()
        source = random.Random(3)
        for _ in range(600):
            loop = some_loop(source, "ab", 3, 2)
            first, again = spreads(loop, SWITCH)
            told = [spread(loop, SWITCH, lap) for lap in range(1, 30)]
            self.assertEqual((first, again), shortest(told))
            found.add((len(first), len(again)))
        self.assertTrue(found >= {(0, 1), (1, 1), (2, 1), (0, 2), (1, 2), (0, 3), (0, 6)}, found)

    def test_without_a_bound_in_some_rounds_only(self):
        loop = loop_of({"a": "pqr", "b": "qqr"}, {"a": (1, 0, 1), "b": (1, 0, 0)}, "qrp", (0, -1, 0))
        self.assertEqual(spreads(loop, EVERY), ((), (None, 0)))
        loop = loop_of({"a": "rqq", "b": "qrp"}, {"a": (-1, 1, -1), "b": (1, 1, 0)}, "rpq", None, "r")
        self.assertEqual(spreads(loop, SWITCH), ((None, 2), (0,)))
        loop = loop_of({"a": "prq", "b": "rpq"}, {"a": (0, -1, 1), "b": (0, 1, 1)}, "rqp", None, "pr")
        self.assertEqual(spreads(loop, SWITCH), ((), (1, None, None, None, 1, None)))


class SettlesTest(Case):
    def test_no_round_and_all_rounds(self):
        self.assertEqual([settles(ODD, Kind("a")), settles(SHIFTS, EVERY), settles(ANEW, EVERY)], [0, 1, None])
        self.assertEqual(settles(loop_of({"a": "p", "b": "p"}, {"a": (3,), "b": (4,)}), EVERY), 0)
        # They say other things for ever, and count nothing.
        self.assertEqual(settles(loop_of({"a": "qqr", "b": "rqr"}, None, None, None, "q"), EVERY), None)
        # They count other things for ever, and say nothing.
        self.assertEqual(settles(loop_of({"a": "qqr", "b": "rqr"}, {"a": (0, 1, 0), "b": (0, 0, 0)}), EVERY), None)

    def test_up_to_one_less_than_the_states(self):
        two = loop_of({"a": "qq", "b": "qq"}, {"a": (0, 0), "b": (1, 0)})
        three = loop_of({"a": "rqr", "b": "qrr"}, {"a": (1, 1, 0), "b": (-1, 1, 0)}, "rqr", (-1, 1, 1), "pqr")
        four = loop_of(
            {"a": "pqsq", "b": "rqqs"}, {"a": (1, 1, 0, 0), "b": (-1, 1, -1, 1)}, "sqrs", (0, -1, 1, 1), "pqs")
        for number, loop in ((1, two), (2, three), (3, four)):
            self.assertEqual(settles(loop, SWITCH), number)
            self.assertEqual(matter_in(loop, SWITCH, 9), [1] * number + [0] * (9 - number))
            told = [matters(loop, SWITCH, lap) for lap in range(1, 10)]
            self.assertEqual(told, [True] * number + [False] * (9 - number))

    def test_it_may_not_matter_ahead_of_the_last_round_in_which_it_does(self):
        found = []
        source = random.Random(9)
        for _ in range(400):
            loop = some_loop(source, "ab", 3, 0)
            number = settles(loop, EVERY)
            told = matter_in(loop, EVERY, 4, 5)
            if number is not None:
                self.assertEqual(told[number:], [0] * (4 - number))
                self.assertTrue(number == 0 or told[number - 1] == 1)
                found.append((number, told[0]))
        self.assertTrue({(0, 0), (1, 1)} <= set(found), set(found))


def matter_in(loop, kind, rounds, most=8):
    """1 or 0 for each of the first rounds, by the rings of at most so many signs."""
    told = [[answers(loop, turning, rounds) for turning in turnings(text)]
            for length in range(1, most + 1) for text in texts_of(kind, length)]
    return [max(len({answer[lap] for answer in ring}) > 1 for ring in told) * 1 for lap in range(rounds)]


class TwoLoopsTest(Case):
    def test_loops_with_different_signs(self):
        one = loop_of({"a": "qp", "c": "pp", "b": "pq"}, {"a": (1, 2), "b": (0, 1), "c": (50, 60)}, None, None, "q")
        other = loop_of({"d": "pq", "a": "pq", "b": "qp"}, {"a": (0, 1), "b": (1, 0), "d": (70, 80)}, None, None, "q")
        for kind in KINDS:
            rings = rings_of_two(one, other, kind)
            for lap, later in LAPS:
                for function, measure in ((same_place, same_in(lap, later)), (any_place, any_in(lap, later))):
                    found = function(one, other, kind, lap, later=later)
                    self.assertTrue(rings.is_greatest(found[1], measure))
            self.assertIs(alike(one, other, kind), not rings.holds(lambda near, far: near != far))
        for kind in (Kind("abc"), Kind("abd"), Kind("c"), Kind("d")):
            for function in (alike, alike_anywhere, unlike):
                self.refuses(OtherSigns, kind, lambda: function(one, other, kind))

    def test_signs_that_the_kind_has_not(self):
        more = loop_of({"a": "qp", "b": "pq", "c": "qq"}, {"a": (0, 0), "b": (0, 1), "c": (9, 9)}, None, None, "q")
        less = loop_of({"a": "qp", "b": "pq"}, {"a": (0, 0), "b": (0, 1)}, None, None, "q")
        self.assertEqual([spread(more, SWITCH, 1), spreads(more, SWITCH), settles(more, SWITCH)],
                         [spread(less, SWITCH, 1), spreads(less, SWITCH), settles(less, SWITCH)])
        self.assertEqual(count_range(more, SWITCH, 3), count_range(less, SWITCH, 3))
        self.assertIs(alike(more, less, SWITCH), True)
        self.assertEqual(any_place(more, less, SWITCH, 1), any_place(less, less, SWITCH, 1))

    def test_later(self):
        for lap in (1, 2, 7):
            for function in (same_place, any_place):
                told = function(ODD, SHIFTS, SWITCH, lap)
                self.assertEqual(function(ODD, SHIFTS, SWITCH, lap, later=lap), told)
                self.assertEqual(function(ODD, SHIFTS, SWITCH, lap, later=None), told)
        self.assertEqual(same_place(ODD, ODD, SWITCH, 2, later=2), (0, 0))
        self.assertEqual(same_place(ODD, ODD, EVERY, 1, later=2), (None, None))
        self.assertEqual(same_place(ODD, ODD, EVERY, 1, later=3), (0, 0))

    def test_the_same_place_is_included(self):
        # Round a ring of one sign there is but one place; from two places of aa the counts are equal.
        one = loop_of({"a": "q" * 2, "b": "p" * 2}, {"a": (5, 0), "b": (0, 0)})
        other = loop_of({"a": "pq", "b": "pq"})
        self.assertEqual(any_place(one, other, Kind("a"), 1), (5, 5))
        self.assertEqual(same_place(one, other, SWITCH, 1), any_place(one, other, SWITCH, 1))
        # Begun at the same place they are alike, but not at two places.
        self.assertEqual((alike(ODD, ODD, SWITCH), alike_anywhere(ODD, ODD, SWITCH)), (True, False))

    def test_answers_that_differ_in_what_is_said_alone(self):
        self.assertEqual((alike(ODD, ~ODD, EVERY), unlike(ODD, ~ODD, EVERY)[1]), (False, 1))
        self.assertEqual(same_place(ODD, ~ODD, EVERY, 1), (0, 0))
        self.assertEqual(len(unlike(ODD, ~ODD, SWITCH)[0]), 2)

    def test_answers_that_differ_in_a_late_round_alone(self):
        one = loop_of({"a": "pqrs"}, None, "qrss", (0, 0, 1, 0))
        other = loop_of({"a": "p"})
        self.assertEqual(unlike(one, other, Kind("a")), ("a", 3))
        self.assertEqual(
            [same_place(one, other, Kind("a"), lap) for lap in (1, 2, 3, 4)], [(0, 0), (0, 0), (1, 1), (0, 0)])

    def test_answers_that_differ_for_a_long_ring_alone(self):
        # Only behind five signs a in a row there is one that counts.
        one = loop_of({"a": "qrstuu", "b": "pppppu"}, {"a": (0, 0, 0, 0, 0, 1), "b": (0,) * 6})
        text, lap = unlike(one, loop_of({"a": "p", "b": "p"}), EVERY)
        self.assertNotEqual(one.answer(text, lap), (0, False))
        self.assertEqual(spread(one, EVERY, 1), None)


class StandsTest(Case):
    def test_how_many_stands_there_are(self):
        self.assertEqual(number_of_stands([JUST_600], EVERY), 600)
        self.assertEqual(number_of_stands([JUST_601], EVERY), 601)
        self.assertEqual(number_of_stands([FIRST_OF_600, SECOND_OF_600], EVERY), 600)
        self.assertEqual(number_of_stands([FIRST_OF_604, SECOND_OF_604], EVERY), 604)

    def test_just_600_stands(self):
        loop = JUST_600
        told = [[answers(loop, turning, 4) for turning in turnings(text)]
                for length in range(1, 9) for text in texts_of(EVERY, length)]
        for lap in (1, 2, 3, 4):
            self.assertIsNone(spread(loop, EVERY, lap))
            found = any(len({said[lap - 1][1] for said in ring}) > 1 for ring in told)
            self.assertIs(disagrees(loop, EVERY, lap), found)
            self.assertIs(matters(loop, EVERY, lap), True)
            least = min(answer[lap - 1][0] for ring in told for answer in ring)
            self.assertEqual(count_range(loop, EVERY, lap), (least, None))
        self.assertEqual((settles(loop, EVERY), spreads(loop, EVERY)), (None, ((), (None,))))
        self.assertEqual((alike(loop, loop, EVERY), alike_anywhere(loop, loop, EVERY)), (True, False))

    def test_just_600_stands_of_two_loops(self):
        one, other = FIRST_OF_600, SECOND_OF_600
        self.assertEqual((same_place(one, other, EVERY, 1), any_place(one, other, EVERY, FAR)), ((0, 0), (0, 0)))
        text, lap = unlike(one, other, EVERY)
        self.assertNotEqual(one.answer(text, lap), other.answer(text, lap))
        self.assertIs(alike_anywhere(one, other, EVERY), False)

    def test_more_than_600_stands(self):
        loop = JUST_601
        # It adds nothing and says nothing, so that the answers could be told without the stands.
        for action in (
                lambda: count_range(loop, EVERY, 1), lambda: spread(loop, EVERY, 1), lambda: disagrees(loop, EVERY, 1),
                lambda: matters(loop, EVERY, 1), lambda: spreads(loop, EVERY), lambda: settles(loop, EVERY),
                lambda: same_place(loop, loop, EVERY, 1), lambda: any_place(loop, loop, EVERY, 1),
                lambda: alike(loop, loop, EVERY), lambda: alike_anywhere(loop, loop, EVERY),
                lambda: unlike(loop, loop, EVERY)):
            self.refuses(TooMany, 600, action, "limit")
        self.assertEqual(settles(loop, SWITCH), 0)

    def test_more_than_600_stands_of_two_loops(self):
        one, other = FIRST_OF_604, SECOND_OF_604
        for function in (alike, alike_anywhere, unlike):
            self.refuses(TooMany, 600, lambda: function(one, other, EVERY), "limit")
            self.assertIn(function(one, one, EVERY), (True, None))
        for function in (same_place, any_place):
            self.refuses(TooMany, 600, lambda: function(one, other, EVERY, 1), "limit")
            self.assertEqual(function(other, other, EVERY, 1), (0, 0))

    def test_words_of_no_ring_count_too(self):
        # With the sign c, which ends each word and stands in no ring, there are more stands.
        ends = Kind("abc", ("aa", "ab", "ac", "ba", "bb", "bc"))
        loop = Loop(
            "abc", JUST_600.states, JUST_600.rows + tuple((state, "c", state, 0) for state in JUST_600.states))
        self.assertEqual(number_of_stands([loop], EVERY), 600)
        self.assertGreater(number_of_stands([loop], ends), 600)
        self.refuses(TooMany, 600, lambda: settles(loop, ends), "limit")
        self.assertIsNone(spread(loop, EVERY, 1))


ASKED = (
    (count_range, ("loop", "kind", "lap"), (SHIFTS, EVERY, 1)), (spread, ("loop", "kind", "lap"), (SHIFTS, EVERY, 1)),
    (disagrees, ("loop", "kind", "lap"), (SHIFTS, EVERY, 1)), (matters, ("loop", "kind", "lap"), (SHIFTS, EVERY, 1)),
    (spreads, ("loop", "kind"), (SHIFTS, EVERY)), (settles, ("loop", "kind"), (SHIFTS, EVERY)),
    (same_place, ("one", "other", "kind", "lap", "later"), (SHIFTS, ODD, EVERY, 1, 2)),
    (any_place, ("one", "other", "kind", "lap", "later"), (SHIFTS, ODD, EVERY, 1, 2)),
    (alike, ("one", "other", "kind"), (SHIFTS, ODD, EVERY)),
    (alike_anywhere, ("one", "other", "kind"), (SHIFTS, ODD, EVERY)),
    (unlike, ("one", "other", "kind"), (SHIFTS, ODD, EVERY)))


class ErrorsTest(AskedTests, Case):
    ASKED = ASKED

    def test_later_is_passed_by_name_alone(self):
        for function in (same_place, any_place):
            with self.assertRaises(TypeError):
                function(SHIFTS, ODD, EVERY, 1, 2)


if __name__ == "__main__":
    unittest.main()
