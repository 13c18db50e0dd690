import random
import unittest
from fractions import Fraction

from by_hand import ANEW, EVERY, FAR, ODD, SHIFTS, Case, Equal, answers, loop_of, some_loop, steps, words
from wherebegun.errors import InvalidNumber, InvalidRound, InvalidWord
from wherebegun.loops import Loop
from wherebegun.rings import Ring

LONGEST = "ab" * 200 + "a" * 200
NO_WORDS = (
    "", "A", "aB", "a1", "a b", "\n", "a\n", "c", "abc", "ac", "`", "{", "a" * 601, "ab" * 301, None, True, False, 0, 1,
    b"a", ("a",), ["a", "b"], {}, {"a"}, Ring("ab"), Ring, Loop, SHIFTS, EVERY, Equal())
NO_INTEGERS = (
    None, True, False, "", "1", b"1", (), (1,), [], [1], {}, {1: 1}, {1}, Ring("a"), Loop, SHIFTS, EVERY, Equal())


def some_loops(seed, number):
    source = random.Random(seed)
    for _ in range(number):
        signs = source.choice(("a", "ab", "abc", "abcd"))
        yield some_loop(source, signs, source.randint(1, 6), source.choice((0, 1, 9)))


# The sign a leads to two states once, then to four again and again; b stays.
LATE = loop_of(
    {"a": "qrstur", "b": "pqrstu"}, {"a": (1, 0, 5, 0, -7, 2), "b": (0,) * 6}, None, (0, 1, 0, 3, 0, 0), "qs")


class RoundsTest(Case):
    def test_step_by_step(self):
        for loop in some_loops(1, 60):
            for word in words(loop.signs, 3)[::3] + [loop.signs, loop.signs * 3]:
                self.assertEqual(loop(word, 20), answers(loop, word, 20))

    def test_kinds_of_values(self):
        found = ODD("ab", 3)
        self.assertEqual(type(found), tuple)
        for answer in found + (ODD.answer("ab", 5), ODD.answer("ab", FAR)):
            self.assertEqual([type(answer), type(answer[0]), type(answer[1])], [tuple, int, bool])
        self.assertEqual([type(ODD.total("ab", 3)), type(ODD.state("ab", 3)), type(ODD.pace("ab"))], [int, str, tuple])
        self.assertEqual([type(part) for part in ODD.pace("ab")], [int, int])

    def test_from_0_to_99_rounds(self):
        for loop in (SHIFTS, ANEW, ODD, LATE):
            told = answers(loop, "aab", 99)
            for rounds in (0, 1, 2, 50, 98, 99):
                self.assertEqual(loop("aab", rounds), told[:rounds])
        self.assertEqual(ODD("ab", 0), ())

    def test_the_longest_words(self):
        for loop in (SHIFTS, ANEW, ODD, LATE):
            self.assertEqual(loop(LONGEST, 9), answers(loop, LONGEST, 9))
            self.assertEqual(loop("a", 9), answers(loop, "a", 9))

    def test_by_name(self):
        self.assertEqual(ODD(rounds=2, text="abbab"), ((2, False), (2, False)))
        self.assertEqual(ODD.answer(lap=1, text="ab"), (1, True))
        self.assertEqual(ODD.state(rounds=1, text="ab"), "o")
        self.assertEqual(ODD.total(rounds=3, text="ab"), 2)
        self.assertEqual(ODD.pace(text="ab"), (1, 2))

    def test_amounts_of_400_digits(self):
        most = 10 ** 399
        loop = Loop("a", ("p", "q"), (("p", "a", "q", most), ("q", "a", "p", -most)), (("q", "q", 1),))
        self.assertEqual(loop("a", 4), answers(loop, "a", 4))
        self.assertEqual(loop.total("a", most), most // 2)

    def test_no_call_changes_the_loop(self):
        row = LATE.row
        first = (LATE("ab", 9), LATE.answer("ab", FAR), LATE.state("ab", 7), LATE.total("ab", 7), LATE.pace("ab"))
        again = (LATE("ab", 9), LATE.answer("ab", FAR), LATE.state("ab", 7), LATE.total("ab", 7), LATE.pace("ab"))
        self.assertEqual((first, LATE.row), (again, row))


class FarTest(Case):
    def check_far(self, loop, word):
        # Behind so many rounds the states have come again, the same number of rounds being round for all.
        told = steps(loop, word, 200)
        states = [loop.states[0]] + [state for _, _, state in told]
        for lap in (1, 2, 3, 7, 60, 66, 100, 199):
            self.assertEqual(loop.answer(word, lap), told[lap - 1][:2])
            self.assertEqual(loop.state(word, lap), states[lap])
            self.assertEqual(loop.total(word, lap), sum(count for count, _, _ in told[:lap]))
        self.assertEqual((loop.state(word, 0), loop.total(word, 0)), (loop.states[0], 0))
        again = sum(count for count, _, _ in told[60:120])
        for far in (FAR, FAR + 1, FAR + 59, 10 ** 399):
            near = 60 + far % 60
            self.assertEqual(loop.answer(word, far), told[near - 1][:2])
            self.assertEqual(loop.state(word, far), states[near])
            total = sum(count for count, _, _ in told[:near])
            self.assertEqual(loop.total(word, far), total + again * ((far - near) // 60))
        pace = Fraction(again, 60)
        self.assertEqual(loop.pace(word), (pace.numerator, pace.denominator))

    def test_far_rounds_totals_and_paces(self):
        for loop in some_loops(2, 60):
            for word in words(loop.signs, 2)[::2] + [loop.signs[::-1] * 2]:
                self.check_far(loop, word)

    def test_all_short_words(self):
        for loop in (SHIFTS, ANEW, ODD, LATE):
            for length in (1, 2, 3, 4):
                for word in words("ab", length):
                    self.check_far(loop, word)

    def test_paces_in_lowest_terms(self):
        self.assertEqual(ODD.pace("aa"), (0, 1))
        self.assertEqual(ODD.pace("abab"), (1, 1))
        self.assertEqual((ODD * -1).pace("ab"), (-1, 2))
        self.assertEqual((ODD * 2).pace("ab"), (1, 1))
        self.assertEqual((ODD * 0).pace("ab"), (0, 1))
        three = loop_of({"a": "qrp"}, {"a": (2, 3, -4)})
        self.assertEqual((three.pace("a"), (three * 3).pace("a"), (-three).pace("aa")), ((1, 3), (1, 1), (-2, 3)))


class WrongValuesTest(Case):
    def actions(self, text, number):
        return (
            (InvalidNumber, lambda: SHIFTS(text, number)), (InvalidRound, lambda: SHIFTS.answer(text, number)),
            (InvalidNumber, lambda: SHIFTS.state(text, number)), (InvalidNumber, lambda: SHIFTS.total(text, number)))

    def test_wrong_words_come_first(self):
        for value in NO_WORDS:
            for number in (1, None, -1):
                with self.subTest(value=value):
                    for _, action in self.actions(value, number):
                        self.refuses(InvalidWord, value, action)
                    self.refuses(InvalidWord, value, lambda: SHIFTS.pace(value))

    def test_wrong_numbers(self):
        for value in NO_INTEGERS + (-1, -FAR):
            with self.subTest(value=value):
                for error, action in self.actions("ab", value):
                    self.refuses(error, value, action)
        self.refuses(InvalidRound, 0, lambda: SHIFTS.answer("ab", 0))
        for value in (100, FAR):
            self.refuses(InvalidNumber, value, lambda: SHIFTS("ab", value))

    def test_the_signs_of_the_loop_count(self):
        loop = loop_of({"c": "p", "d": "p"}, {"c": (1,), "d": (2,)})
        self.assertEqual(loop("cdd", 1), ((5, False),))
        for text in ("a", "ca", "cb", "ce", "z"):
            self.refuses(InvalidWord, text, lambda: loop(text, 1))


if __name__ == "__main__":
    unittest.main()
