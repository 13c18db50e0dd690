import random
import unittest
from functools import lru_cache

from by_hand import ANEW, EVERY, ODD, SHIFTS, SWITCH, Case, Equal, answers, loop_of, some_loop, texts_of, turnings
from checker_by_hand import accepts_by_hand
from samples import JUST_600, JUST_601, KINDS, THREE_SIGNS
from wherebegun import checker
from wherebegun.certificates import certify_range, certify_settled, certify_spread
from wherebegun.checker import accepts
from wherebegun.kinds import Kind
from wherebegun.loops import Loop
from wherebegun.rings import Ring

NO_RINGS = (Kind("ab", ("ab",)), Kind("a", ()), Kind("abc", ("ab", "bc", "ac")))
VALUES = (
    None, True, False, 0, 1, -1, 2, "", "a", "b", "ab", "c", "differ", "spread", "pumped", "settled", "within", b"a",
    (), (0,), ((),), [], [()], {}, {1}, 10 ** 30, SHIFTS, EVERY, Ring("ab"), Loop, Equal(), (Equal(),))
ODD_SPREAD = (("pumped", ODD.row, EVERY.row, 1), ("a", "aba", "", "a"))


def places(value, path=()):
    """The ways to all parts of a tuple."""
    found = [path]
    if isinstance(value, tuple):
        for at, part in enumerate(value):
            found.extend(places(part, path + (at,)))
    return found


def at(value, path):
    for index in path:
        value = value[index]
    return value


def put(value, path, part):
    """The tuple with another part at this place."""
    if not path:
        return part
    return value[:path[0]] + (put(value[path[0]], path[1:], part),) + value[path[0] + 1:]


def near(value, source):
    """Values that are a little other."""
    if isinstance(value, tuple):
        found = [list(value), value[:-1], value[1:], value + value[-1:], value + value[:1], value[::-1], value + ((),)]
        if value:
            index = source.randrange(len(value))
            found += [value[:index] + value[index + 1:], value[:index + 1] + value[index:],
                      tuple(source.sample(value, len(value)))]
        return found
    if isinstance(value, str):
        return [value + "a", value[1:], value[::-1], value * 2, value[1:] + value[:1], value * 300, value.upper()]
    return [value + 1, value - 1, -value, bool(value), value + 97, value + 98, value + 10]


@lru_cache(maxsize=None)
def certified():
    """Claims with certificates, of all sorts, for loops with few stands."""
    source = random.Random(21)
    found = []
    for kind in KINDS + KINDS[:3] + THREE_SIGNS:
        signs = "abc" if "c" in kind.signs else "ab"
        loop = some_loop(source, signs, source.choice((1, 2, 2, 3)), source.choice((0, 1, 1, 2)))
        found.extend([certify_spread(loop, kind, lap) for lap in (1, 2, 5)])
        found.extend([certify_range(loop, kind, lap) for lap in (1, 2)])
        found.extend([certify_settled(loop, kind, number) for number in (0, 1, 3)])
    for loop in (SHIFTS, ANEW, ODD):
        for kind in (EVERY, SWITCH):
            found.extend([certify_spread(loop, kind, lap) for lap in (1, 2)])
            found.extend([certify_settled(loop, kind, number) for number in (0, 1)])
            found.extend([certify_range(loop, kind, lap) for lap in (1, 2)])
    return [pair for pair in found if pair is not None]


@lru_cache(maxsize=None)
def without_rings():
    """Claims about kinds without rings, with certificates that are as short as possible."""
    found = []
    for kind in NO_RINGS:
        for loop, last in ((loop_of({"a": "p", "b": "p", "c": "p"}, {"a": (9,), "b": (1,), "c": (0,)}), 1),
                           (loop_of({"a": "qp", "b": "pp", "c": "pq"}, {"a": (1, 3), "b": (2, 0), "c": (1, 1)}), 3)):
            found.append((("spread", loop.row, kind.row, 1, 0), ()))
            found.append((("settled", loop.row, kind.row, 0), ((),) * last))
            found.append((("within", loop.row, kind.row, 1, 5, -5), ()))
    return found


def changed(source, claim, certificate):
    """Another claim or another certificate."""
    for _ in range(source.choice((1, 1, 1, 2))):
        if source.random() < 0.4:
            # The rows of the loop and of the kind are long: so the rest is chosen as often as they are.
            paths = source.choice([places(claim), [(index,) for index in range(len(claim))] or [()]])
            path = source.choice(paths)
            claim = put(claim, path, source.choice(other_values(at(claim, path), source)))
        else:
            path = source.choice(places(certificate))
            certificate = put(certificate, path, source.choice(other_values(at(certificate, path), source)))
        if not isinstance(claim, tuple) or not isinstance(certificate, tuple):
            break
    return claim, certificate


def other_values(value, source):
    if isinstance(value, (tuple, str, int)) and source.random() < 0.8:
        return near(value, source)
    return VALUES


def is_true(claim):
    """Whether what is claimed holds on the rings of few signs, run from all places."""
    what, loop, kind = claim[0], Loop.made(claim[1]), Kind.made(claim[2])
    last = 13 if what == "settled" else claim[-1] if what in ("differ", "pumped") else claim[3]
    for length in range(1, 7):
        for text in texts_of(kind, length):
            told = [answers(loop, turning, last) for turning in turnings(text)]
            counts = [answer[-1][0] for answer in told]
            if what == "spread" and max(counts) - min(counts) > claim[4]:
                return False
            if what == "within" and not claim[4] <= min(counts) <= max(counts) <= claim[5]:
                return False
            if what == "settled" and len({answer[claim[3]:] for answer in told}) > 1:
                return False
    return True


class ExamplesTest(Case):
    def test_examples_of_the_document(self):
        shifts, every = SHIFTS, EVERY
        claim, certificate = certify_spread(shifts, every, 1)
        self.assertEqual([accepts(claim, certificate), accepts(claim[:4] + (0,), certificate)], [True, False])
        self.assertIs(accepts(("differ", shifts.row, every.row, "aab", "aba", 1), ()), True)

    def test_what_is_listed_stands_in_the_file_itself(self):
        self.assertEqual(accepts.__module__, "wherebegun.checker")
        self.assertIs(vars(checker)["accepts"], accepts)

    def test_by_name(self):
        claim, certificate = certify_spread(SHIFTS, EVERY, 1)
        self.assertIs(accepts(certificate=certificate, claim=claim), True)
        self.assertIs(accepts(certificate=claim, claim=certificate), False)


class AllClaimsTest(Case):
    def check(self, claim, certificate):
        found = accepts(claim, certificate)
        self.assertIs(type(found), bool)
        self.assertIs(found, accepts_by_hand(claim, certificate), (claim, certificate))
        return found

    def test_the_certificates_of_the_package(self):
        found = set()
        for claim, certificate in certified():
            self.assertIs(self.check(claim, certificate), True)
            found.add(claim[0])
        self.assertEqual(found, {"differ", "pumped", "spread", "settled", "within"})

    def test_kinds_without_rings(self):
        for claim, certificate in without_rings():
            self.assertIs(self.check(claim, certificate), True)
            loop, kind = claim[1:3]
            self.assertIs(self.check(("differ", loop, kind, "ab", "ba", 1), ()), False)
            self.assertIs(self.check(("differ", loop, kind, "a", "a", 1), ()), False)
            self.assertIs(self.check(("pumped", loop, kind, 1), ("a", "a", "", "a")), False)

    def test_something_changed_at_any_place(self):
        source = random.Random(31)
        found = {}
        for claim, certificate in certified() + without_rings():
            for _ in range(45):
                told = changed(source, claim, certificate)
                accepted = self.check(*told)
                found[claim[0], accepted] = found.get((claim[0], accepted), 0) + 1
                if accepted:
                    self.assertTrue(is_true(told[0]), told)
        for what in ("differ", "pumped", "spread", "settled", "within"):
            self.assertGreater(found[what, True], 5)
            self.assertGreater(found[what, False], 50)

    def test_each_part_left_out_and_each_part_doubled(self):
        for claim, certificate in certified()[::3]:
            for value, make in ((claim, lambda value: (value, certificate)), (certificate, lambda value: (claim, value))):
                paths = [path for path in places(value) if path]
                for path in paths[::max(1, len(paths) // 40)]:
                    whole = at(value, path[:-1])
                    index = path[-1]
                    self.check(*make(put(value, path[:-1], whole[:index] + whole[index + 1:])))
                    self.check(*make(put(value, path[:-1], whole[:index + 1] + whole[index:])))

    def test_values_of_any_sort(self):
        for value in VALUES:
            for claim, certificate in certified()[::9]:
                self.assertIs(self.check(value, certificate), False)
                self.assertIs(accepts(value, value), False)
                self.check(claim, value)
                for index in range(len(claim)):
                    self.check(put(claim, (index,), value), certificate)
                for path in [path for path in places(certificate) if path][:30]:
                    self.check(claim, put(certificate, path, value))

    def test_true_and_false_in_the_place_of_numbers(self):
        found = 0
        for claim, certificate in certified():
            for value, make in ((claim, lambda value: (value, certificate)), (certificate, lambda value: (claim, value))):
                for path in [path for path in places(value) if at(value, path) in (0, 1)][:25]:
                    found += 1
                    self.assertIs(accepts(*make(put(value, path, bool(at(value, path))))), False)
        self.assertGreater(found, 500)

    def test_lists_in_the_place_of_tuples(self):
        for claim, certificate in certified():
            for value, make in ((claim, lambda value: (value, certificate)), (certificate, lambda value: (claim, value))):
                for path in [path for path in places(value) if isinstance(at(value, path), tuple)][:25]:
                    self.assertIs(accepts(*make(put(value, path, list(at(value, path))))), False)


class DifferTest(Case):
    def test_what_is_no_claim_or_no_certificate(self):
        right = ("differ", SHIFTS.row, EVERY.row, "aab", "aba", 1)
        self.assertIs(accepts(right, ()), True)
        for index, value in (
                (3, "aa"), (3, "bab"), (3, ""), (3, "aac"), (3, "AAB"), (3, "aabaab"), (4, "aab"), (4, "bab"), (4, ""),
                (5, 0), (5, 2), (5, 100), (5, True), (5, "1"), (2, Kind("a").row), (2, SWITCH.row), (0, "settled"),
                (1, Loop("a", ("p",), (("p", "a", "p", 0),)).row)):
            self.assertIs(accepts(put(right, (index,), value), ()), False, (index, value))
        for certificate in (None, [], "", (None,), ((),), 0, False, {}, Equal()):
            self.assertIs(accepts(right, certificate), False)
        self.assertIs(accepts(right[:-1], ()), False)
        self.assertIs(accepts(right + (1,), ()), False)

    def test_other_places_of_the_round(self):
        for lap in (1, 50, 99):
            self.assertIs(accepts(("differ", ANEW.row, EVERY.row, "aab", "aba", lap), ()), True)
            self.assertIs(accepts(("differ", ANEW.row, EVERY.row, "aab", "baa", lap), ()), False)
        self.assertIs(accepts(("differ", ANEW.row, EVERY.row, "aab", "aba", 100), ()), False)

    def test_the_longest_words(self):
        for length, accepted in ((600, True), (601, False), (602, False)):
            one = "a" * (length - 1) + "b"
            other = "a" * (length - 2) + "ba"
            self.assertIs(accepts(("differ", SHIFTS.row, EVERY.row, one, other, 1), ()), accepted)

    def test_more_than_600_stands_do_not_matter_here(self):
        says = Loop("ab", JUST_601.states, JUST_601.rows, yes=("q",))
        one, other = "ab", "ba"
        self.assertNotEqual(says.answer(one, 1), says.answer(other, 1))
        self.assertIs(accepts(("differ", says.row, EVERY.row, one, other, 1), ()), True)


class PumpedTest(Case):
    def test_each_condition(self):
        right, pieces = ODD_SPREAD
        self.assertIs(accepts(right, pieces), True)
        for told in (
                ("a", "aba", "", ""), ("", "aba", "", "a"), ("a", "", "", "a"), ("a", "aba", None, "a"),
                ("a", "aa", "", "a"), ("a", "ab", "", "a"), ("a", "a", "", "a"), ("a", "aba", "c", "a"),
                ("b", "aba", "", "a"), ("a", "aba", "", "a", ""), ("a", "aba", ""), ("a", "aba", "A", "a"),
                ("a", "aba", "1", "a"), ("a", "aba", " ", "a"), ("a", "aba", "b" * 601, "a"), ("A", "aba", "", "a"),
                ("a", "aBa", "", "a"), ("a", "aba", "", "\n")):
            self.assertIs(accepts(right, told), accepts_by_hand(right, told), told)
            self.assertIs(accepts(right, told), False, told)
        for told in (("a", "aba", "b", "a"), ("ba", "aba", "", "a"), ("a", "abaaba", "", "a"), ("a", "aba", "", "aa")):
            self.assertIs(accepts(right, told), accepts_by_hand(right, told), told)

    def test_not_of_the_kind(self):
        claim = ("pumped", ODD.row, Kind("ab", ("aa", "ab", "ba")).row, 1)
        self.assertIs(accepts(claim, ("a", "aba", "", "a")), True)
        for pieces in (("a", "abba", "", "a"), ("a", "aba", "b", "ba"), ("ba", "aba", "", "ab")):
            self.assertIs(accepts(claim, pieces), False)

    def test_the_longest_words(self):
        claim = ("pumped", ODD.row, EVERY.row, 1)
        for more, accepted in ((0, True), (1, False), (2, False)):
            # 592 signs and twice aba with two more.
            pieces = ("b" * (592 + more) + "a", "aba", "", "a")
            self.assertIs(len("".join(pieces) + "aba") <= 600, accepted)
            self.assertIs(accepts(claim, pieces), accepted)

    def test_round_99_and_100(self):
        for lap, accepted in ((99, True), (100, False), (0, False)):
            self.assertIs(accepts(("pumped", ODD.row, EVERY.row, lap), ODD_SPREAD[1]), accepted)


class SpreadTest(Case):
    def test_greater_and_smaller_numbers(self):
        for lap in (1, 2, 3):
            claim, certificate = certify_spread(ANEW, EVERY, lap)
            for most in (1, 2, 10 ** 30):
                self.assertIs(accepts(claim[:4] + (most,), certificate), True)
            for most in (0, -1, None, True, "1"):
                self.assertIs(accepts(claim[:4] + (most,), certificate), False)

    def test_bounds_that_are_greater(self):
        claim, certificate = certify_spread(SHIFTS, EVERY, 1)
        higher = tuple((p, q, tuple((stand, most + 1) for stand, most in bounds)) for p, q, bounds in certificate)
        self.assertIs(accepts(claim, higher), False)
        self.assertIs(accepts(claim[:4] + (3,), higher), accepts_by_hand(claim[:4] + (3,), higher))

    def test_the_order_does_not_matter(self):
        source = random.Random(3)
        claim, certificate = certify_spread(SHIFTS, EVERY, 1)
        for _ in range(10):
            told = tuple((p, q, tuple(source.sample(bounds, len(bounds)))) for p, q, bounds in certificate)
            self.assertIs(accepts(claim, tuple(source.sample(told, len(told)))), True)

    def test_two_states_that_are_one(self):
        claim, certificate = certify_spread(ANEW, EVERY, 1)
        bounds = tuple((stand, 0) for stand, _ in certificate[0][2])
        self.assertIs(accepts(claim, certificate + ((1, 1, bounds),)), False)
        self.assertIs(accepts(claim, certificate + ((1, 1, ()),)), False)

    def test_more_than_is_needed(self):
        claim, certificate = certify_spread(ANEW, EVERY, 1)
        pairs = [triple[:2] for triple in certificate]
        for p in range(3):
            for q in range(3):
                if (p, q) not in pairs and p != q:
                    self.assertIs(accepts(claim, certificate + ((p, q, ()),)), True)
        self.assertIs(accepts(claim, certificate + ((3, 0, ()),)), False)
        self.assertIs(accepts(claim, certificate + ((0, -1, ()),)), False)

    def test_stands_of_which_others_come_are_needed(self):
        claim, certificate = certify_spread(SHIFTS, EVERY, 1)
        for index, (p, q, bounds) in enumerate(certificate):
            for left in range(len(bounds)):
                told = put(certificate, (index, 2), bounds[:left] + bounds[left + 1:])
                self.assertIs(accepts(claim, told), accepts_by_hand(claim, told))


class SettledTest(Case):
    def test_another_number_of_rounds(self):
        claim, certificate = certify_settled(SHIFTS, EVERY, 1)
        # Three states: the rounds 2 .. 8 tell of all.
        self.assertEqual(len(certificate), 7)
        self.assertIs(accepts(claim, certificate), True)
        for number, length in ((1, 6), (1, 8), (0, 7), (0, 8), (2, 7), (3, 7)):
            told = (certificate * 2)[:length]
            self.assertIs(accepts(claim[:3] + (number,), told), False, (number, length))
        for number, length in ((2, 6), (3, 6), (9, 6)):
            self.assertIs(accepts(claim[:3] + (number,), certificate[:length]), True)
        for number in (-1, 10, True, None, "1"):
            self.assertIs(accepts(claim[:3] + (number,), certificate), False)

    def test_what_is_said(self):
        # It counts nothing, but says yes from one of two places.
        says = loop_of({"a": "qqr", "b": "rqr"}, None, None, None, "q")
        claim, certificate = ("settled", says.row, EVERY.row, 0), None
        silent = Loop.made(says.row[:4] + ((),))
        certificate = certify_settled(silent, EVERY, 0)[1]
        self.assertIs(accepts(("settled", silent.row, EVERY.row, 0), certificate), True)
        self.assertIs(accepts(claim, certificate), False)

    def test_boundings_that_are_not_alike(self):
        claim, certificate = certify_settled(SHIFTS, EVERY, 1)
        more = [pair for pair in ((0, 1), (0, 2), (1, 0), (1, 2), (2, 0), (2, 1))
                if pair not in [triple[:2] for triple in certificate[0]]]
        told = tuple(bounding + tuple((p, q, ()) for p, q in more[:lap % 3]) for lap, bounding in enumerate(certificate))
        self.assertIs(accepts(claim, told), True)
        for lap in range(7):
            self.assertIs(accepts(claim, put(told, (lap,), ())), accepts_by_hand(claim, put(told, (lap,), ())))


    def test_each_round_has_a_bounding_of_its_own(self):
        source = random.Random(41)
        found = {True: 0, False: 0}
        for _ in range(60):
            loop = some_loop(source, "ab", source.choice((2, 3)), 1)
            kind = source.choice((EVERY, SWITCH, KINDS[2]))
            states = len(loop.states)
            for number in (0, 1, 2):
                rounds = range(number + 1, max(number, states - 1) + (2, 6)[states - 2] + 1)
                made = [certify_spread(loop, kind, lap) for lap in rounds]
                if all(claim[0] == "spread" for claim, _ in made):
                    claim = ("settled", loop.row, kind.row, number)
                    parts = [certificate for _, certificate in made]
                    # What is enough for one round alone may lack what the next one needs, whatever stands beside it.
                    for told in (parts, parts[::-1], parts[:1] * len(parts), parts[:1] + parts[1:2] * len(parts[1:]),
                                 (parts[:2] * 9)[:len(parts)], parts[:-1] + parts[:1], parts[1:] + parts[-1:]):
                        accepted = accepts(claim, tuple(told))
                        self.assertIs(accepted, accepts_by_hand(claim, tuple(told)))
                        found[accepted] += 1
        self.assertTrue(found[True] > 100 and found[False] > 100, found)

    def test_a_bounding_that_is_enough_for_the_first_round_alone(self):
        # It looks at the signs in each third round only.
        late = loop_of({"a": "pqss", "b": "pqrr"}, {"a": (0, 0, 0, 0), "b": (0, 0, 0, 1)}, "qrpp")
        claim, certificate = certify_spread(late, EVERY, 1)
        self.assertEqual(claim[4], 0)
        for lap in (1, 2):
            self.assertIs(accepts(claim[:3] + (lap, 0), certificate), True)
        self.assertIs(accepts(("settled", late.row, EVERY.row, 0), (certificate,) * 15), False)


class WithinTest(Case):
    def test_nearer_ends(self):
        claim, certificate = certify_range(ANEW, Kind("a"), 1)
        self.assertEqual(claim[3:], (1, 0, 0))
        self.assertIs(accepts(claim, certificate), True)
        for ends, accepted in (((-1, 0), True), ((0, 1), True), ((-9, 9), True), ((1, 0), False), ((0, -1), False),
                               ((None, 0), False), ((0, None), False), ((False, 0), False)):
            self.assertIs(accepts(claim[:4] + ends, certificate), accepted, ends)


class StandsTest(Case):
    def test_just_600_stands(self):
        still = Loop("ab", JUST_600.states, tuple(row[:3] + (0,) for row in JUST_600.rows), JUST_600.turns)
        for made in (certify_range(still, EVERY, 3), certify_settled(still, EVERY, 0)):
            self.assertIn(made[0][0], ("within", "settled"))
            self.assertIs(accepts(*made), True)

    def test_more_than_600_stands(self):
        # It adds nothing: so the claims are true, and with these certificates all that is looked at would be there.
        for claim, certificate in (
                (("spread", JUST_601.row, EVERY.row, 1, 0), ()), (("within", JUST_601.row, EVERY.row, 1, 0, 0), ()),
                (("settled", JUST_601.row, EVERY.row, 0), ((),) * 64)):
            self.assertIs(accepts(claim, certificate), False)
            self.assertIs(accepts_by_hand(claim, certificate), False)
        claim = ("spread", JUST_601.row, SWITCH.row, 1, 0)
        self.assertIs(accepts(claim, certify_spread(JUST_601, SWITCH, 1)[1]), True)


if __name__ == "__main__":
    unittest.main()
