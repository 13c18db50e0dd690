import random
import unittest
from math import lcm

from asked_tests import AskedTests
from by_hand import ANEW, EVERY, FAR, ODD, SHIFTS, SWITCH, Case, Equal, is_of, loop_of, some_loop, turnings
from checker_by_hand import accepts_by_hand
from samples import JUST_600, KINDS, NO_ROUNDS, samples
from wherebegun.begun import count_range, settles, spread
from wherebegun.certificates import certify_range, certify_settled, certify_spread
from wherebegun.checker import accepts
from wherebegun.errors import InvalidNumber, InvalidRound
from wherebegun.kinds import Kind
from wherebegun.loops import Loop
from wherebegun.rings import Ring

FAR_ROUNDS = NO_ROUNDS + (100, 101, FAR)
NO_NUMBERS = (
    -1, 10, 11, FAR, -FAR, None, True, False, "1", "", b"1", (), (1,), [1], {}, SHIFTS, EVERY, Ring("a"), Equal())


class ExamplesTest(Case):
    def test_examples_of_the_document(self):
        shifts, anew, odd, every = SHIFTS, ANEW, ODD, EVERY
        claim, certificate = certify_spread(shifts, every, 1)
        self.assertEqual(
            [claim[0], claim[3], claim[4], accepts(claim, certificate), accepts(claim[:4] + (0,), certificate),
             certify_spread(odd, every, 1)[0][0]], ["spread", 1, 1, True, False, "pumped"])
        self.assertEqual(
            [certify_settled(shifts, every, 1)[0][0], certify_settled(shifts, every, 0)[0][0],
             certify_range(shifts, every, 1), certify_range(anew, Kind("a"), 1)[0][3:]],
            ["settled", "differ", None, (1, 0, 0)])


class CertificatesCase(Case):
    def accepted(self, made):
        self.assertEqual([type(made), len(made), type(made[0]), type(made[1])], [tuple, 2, tuple, tuple])
        self.assertIs(accepts(*made), True)
        return made


class SpreadTest(CertificatesCase):
    def test_the_claim_is_about_the_arguments(self):
        found = set()
        for loop, _, kind, _ in samples():
            for lap in (1, 2, 3, 7, 99):
                claim, certificate = self.accepted(certify_spread(loop, kind, lap))
                most = spread(loop, kind, lap)
                if most is None:
                    self.assertEqual(claim, ("pumped", loop.row, kind.row, lap))
                else:
                    self.assertEqual(claim, ("spread", loop.row, kind.row, lap, most))
                    if most > 0:
                        self.assertIs(accepts(claim[:4] + (most - 1,), certificate), False)
                    self.assertIs(accepts(("pumped",) + claim[1:4], certificate), False)
                found.add(claim[0])
        self.assertEqual(found, {"spread", "pumped"})

    def test_certificates_for_other_rounds_and_loops(self):
        claim, certificate = certify_spread(SHIFTS, EVERY, 1)
        for told in (claim[:3] + (2, 0), ("spread", ANEW.row, EVERY.row, 1, 1), ("spread", ODD.row, EVERY.row, 1, 1),
                     ("spread", SHIFTS.row, SWITCH.row, 1, 1), ("settled", SHIFTS.row, EVERY.row, 1)):
            self.assertIs(accepts(told, certificate), accepts_by_hand(told, certificate))

    def test_stands_without_a_bound_are_left_out(self):
        # Behind an a each b counts; but no ring of the kind has both signs.
        loop = loop_of({"a": "qq", "b": "pq"}, {"a": (0, 0), "b": (0, 1)}, "pp")
        kind = Kind("ab", ("aa", "ab", "bb"))
        claim, certificate = self.accepted(certify_spread(loop, kind, 1))
        self.assertEqual(claim[3:], (1, 0))
        pairs = {triple[:2]: dict(triple[2]) for triple in certificate}
        # Only the words that begin with b have no bound there.
        self.assertEqual(pairs[1, 0], {((1, 1), "a", "a"): 0, ((1, 1), "a", "b"): 0})
        self.assertEqual(pairs[0, 1], {((1, 1), "a", "a"): 0, ((0, 1), "b", "b"): -1, ((1, 1), "a", "b"): 0})

    def test_six_states_and_far_rounds(self):
        source = random.Random(14)
        found = set()
        for _ in range(40):
            loop = some_loop(source, "ab", source.choice((4, 5, 6)), 1)
            for lap in (5, 6, 7, 8, 97, 98, 99):
                claim, certificate = self.accepted(certify_spread(loop, SWITCH, lap))
                self.assertIs(accepts_by_hand(claim, certificate), True)
                found.add(claim[0])
        self.assertEqual(found, {"spread", "pumped"})

    def test_just_600_stands(self):
        self.assertEqual(self.accepted(certify_spread(JUST_600, EVERY, 1))[0][0], "pumped")


class SettledTest(CertificatesCase):
    def test_settled_just_where_it_is(self):
        found = set()
        for loop, _, kind, _ in samples():
            least = settles(loop, kind)
            for number in (0, 1, 2, 9):
                claim, certificate = self.accepted(certify_settled(loop, kind, number))
                self.assertEqual(claim[1:3], (loop.row, kind.row))
                if least is not None and least <= number:
                    self.assertEqual(claim, ("settled", loop.row, kind.row, number))
                else:
                    self.differ(claim, certificate, loop, kind, number)
                found.add((claim[0], number))
        self.assertTrue({("settled", 0), ("settled", 9), ("differ", 0), ("differ", 1), ("differ", 9)} <= found, found)

    def differ(self, claim, certificate, loop, kind, number):
        what, _, _, one, other, lap = claim
        self.assertEqual((what, certificate), ("differ", ()))
        self.assertIn(other, turnings(one))
        self.assertTrue(is_of(one, kind.signs, kind.pairs))
        self.assertNotEqual(loop.answer(one, lap), loop.answer(other, lap))
        states = len(loop.states)
        self.assertTrue(number < lap <= max(number, states - 1) + lcm(*range(1, states + 1)))

    def test_not_for_a_smaller_number(self):
        three = loop_of({"a": "rqr", "b": "qrr"}, {"a": (1, 1, 0), "b": (-1, 1, 0)}, "rqr", (-1, 1, 1), "pqr")
        four = loop_of(
            {"a": "pqsq", "b": "rqqs"}, {"a": (1, 1, 0, 0), "b": (-1, 1, -1, 1)}, "sqrs", (0, -1, 1, 1), "pqs")
        for loop, kind, least in ((SHIFTS, EVERY, 1), (three, SWITCH, 2), (four, SWITCH, 3)):
            for number in range(10):
                claim, certificate = self.accepted(certify_settled(loop, kind, number))
                self.assertEqual(claim[0], "settled" if number >= least else "differ")
                if number == least:
                    smaller = claim[:3] + (number - 1,)
                    self.assertIs(accepts(smaller, certificate), False)
                    self.assertIs(accepts(smaller, certificate[:1] + certificate), False)

    def test_it_matters_in_late_rounds_alone(self):
        # Only in each third round does it look at the signs: then it counts the signs b behind an a.
        late = loop_of({"a": "pqss", "b": "pqrr"}, {"a": (0, 0, 0, 0), "b": (0, 0, 0, 1)}, "qrpp")
        self.assertIsNone(settles(late, EVERY))
        for number in range(10):
            claim, certificate = self.accepted(certify_settled(late, EVERY, number))
            self.differ(claim, certificate, late, EVERY, number)
            self.assertEqual(claim[5] % 3, 0)

    def test_six_states(self):
        source = random.Random(17)
        found = set()
        for _ in range(60):
            loop = some_loop(source, "ab", 6, 1)
            least = settles(loop, SWITCH)
            for number in (0, 5, 9):
                claim, certificate = self.accepted(certify_settled(loop, SWITCH, number))
                self.assertIs(claim[0] == "settled", least is not None and least <= number)
                if claim[0] == "differ":
                    self.differ(claim, certificate, loop, SWITCH, number)
                else:
                    self.assertEqual(len(certificate), max(number, 5) + 60 - number)
                found.add(claim[0])
        self.assertEqual(found, {"settled", "differ"})

    def test_just_600_stands(self):
        claim, certificate = self.accepted(certify_settled(JUST_600, EVERY, 9))
        self.differ(claim, certificate, JUST_600, EVERY, 9)


class RangeTest(CertificatesCase):
    def test_none_just_where_a_count_has_no_bound(self):
        found = set()
        for loop, _, kind, _ in samples():
            for lap in (1, 2, 3, 99):
                ends = count_range(loop, kind, lap)
                made = certify_range(loop, kind, lap)
                found.add(made is None)
                if None in ends:
                    self.assertIsNone(made)
                    continue
                claim, certificate = self.accepted(made)
                self.assertEqual(claim, ("within", loop.row, kind.row, lap) + ends)
                self.assertIs(accepts(claim[:4] + (ends[0] + 1, ends[1]), certificate), False)
                self.assertIs(accepts(claim[:4] + (ends[0], ends[1] - 1), certificate), False)
                self.assertIs(accepts(claim[:4] + (ends[0] - 1, ends[1] + 5), certificate), True)
        self.assertEqual(found, {True, False})

    def test_stands_without_a_bound_are_left_out(self):
        loop = loop_of({"a": "qq", "b": "pq"}, {"a": (0, 0), "b": (0, 1)}, "pp")
        claim, certificate = self.accepted(certify_range(loop, Kind("ab", ("aa", "ab", "bb")), 1))
        self.assertEqual(claim[3:], (1, 0, 0))
        self.assertEqual([state for state, _, _ in certificate], [0])
        self.assertEqual(dict(certificate[0][1])[(1, 1), "a", "b"], 1)
        self.assertNotIn(((1, 1), "a", "b"), dict(certificate[0][2]))
        claim, certificate = self.accepted(certify_range(-loop, Kind("ab", ("aa", "ab", "bb")), 1))
        self.assertEqual(claim[3:], (1, 0, 0))
        self.assertEqual(dict(certificate[0][2])[(1, 1), "a", "b"], -1)
        self.assertNotIn(((1, 1), "a", "b"), dict(certificate[0][1]))

    def test_one_end_alone_has_no_bound(self):
        loop = loop_of({"a": "p"}, {"a": (1,)})
        self.assertEqual(count_range(loop, Kind("a"), 1), (1, None))
        self.assertEqual([certify_range(told, Kind("a"), 1) for told in (loop, -loop)], [None, None])

    def test_just_600_stands(self):
        self.assertIsNone(certify_range(JUST_600, EVERY, 1))
        still = Loop("ab", JUST_600.states, tuple(row[:3] + (0,) for row in JUST_600.rows), JUST_600.turns)
        self.assertEqual(self.accepted(certify_range(still, EVERY, 99))[0][3:], (99, 0, 0))


class NumbersTest(Case):
    def test_rounds_and_numbers_that_are_right(self):
        for kind in KINDS[:2]:
            for lap in (1, 2, 98, 99):
                self.assertEqual(certify_spread(SHIFTS, kind, lap)[0][3], lap)
                self.assertIn(certify_range(SHIFTS, SWITCH, lap), (None, certify_range(SHIFTS, SWITCH, lap)))
            for number in range(10):
                self.assertIn(certify_settled(SHIFTS, kind, number)[0][0], ("settled", "differ"))


class ErrorsTest(AskedTests, Case):
    ASKED = (
        (certify_spread, ("loop", "kind", "lap"), (SHIFTS, EVERY, 99)),
        (certify_settled, ("loop", "kind", "number"), (SHIFTS, EVERY, 9)),
        (certify_range, ("loop", "kind", "lap"), (SHIFTS, Kind("a"), 99)))
    WRONG = {"lap": (InvalidRound, FAR_ROUNDS), "number": (InvalidNumber, NO_NUMBERS)}


if __name__ == "__main__":
    unittest.main()
