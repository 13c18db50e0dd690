import itertools
import unittest

from by_hand import Case, Equal, turnings
from wherebegun import rings
from wherebegun.errors import InvalidNumber, InvalidPlace, InvalidWord, NotARing
from wherebegun.rings import Ring

LONGEST = "a" * 300 + "b" * 299 + "c"
NO_WORDS = (
    "", "A", "aB", "ab1", "a b", " ", "a\n", "\n", "a-b", "`", "{", "a{", "@a", "a" * 601, "ab" * 301, "a" * 4000,
    None, True, False, 0, 1, 97, b"ab", ("a",), ("a", "b"), ["a", "b"], [], (), {}, {"a": 1}, {"a"}, Ring, Ring("ab"),
)
NO_INTEGERS = (
    None, True, False, "", "0", "a", b"a", [], [0], [0, 1], {}, {0: 1}, {0}, Ring("a"), Ring, slice(0, 1), slice(None),
)
NO_PLACES = NO_INTEGERS + (
    (), (0,), (0, 1, 1), (0, 1, 1, 1), (0, 0), (0, -1), (0, 601), (0, 10 ** 399), (0, True), (0, False), (True, 1),
    (False, 1), (True, True), (0, None), (None, 1), ("0", 1), (0, "1"), ((0, 1), 1), (0, (1,)), ((0, 1),), [0, 1],
    ([0], 1), (0, [1]), (slice(0, 1), 1), (Ring("a"), 1), (-1, 0), (10 ** 399, 601),
)
FAR = 10 ** 399


def words(signs, most):
    for length in range(1, most + 1):
        for chosen in itertools.product(signs, repeat=length):
            yield "".join(chosen)


def read(text, place, number):
    return "".join(text[(place + k) % len(text)] for k in range(number))


class ExamplesTest(Case):
    def test_examples_of_the_document(self):
        ring = Ring("cabab")
        self.assertEqual(
            [str(ring), ring == Ring("babca"), ring.period, Ring("abab").period, ring[-1], ring[7], ring[3, 4],
             str(~ring)],
            ["ababc", True, 5, 2, "c", "a", "bcab", "abacb"])
        self.assertEqual(
            ["ca" in ring, "cabab" * 3 in ring, "cc" in ring, str(Ring("ab") * 2 + Ring("c")), list(Ring("ba"))],
            [True, True, False, "ababc", ["a", "b"]])

    def test_what_is_listed_stands_in_the_class_itself(self):
        self.assertEqual(Ring.__module__, "wherebegun.rings")
        self.assertIs(vars(rings)["Ring"], Ring)
        for name in ("__init__", "__str__", "__len__", "__eq__", "__iter__", "__getitem__", "__invert__", "__mul__",
                     "__add__", "__contains__", "turned", "text", "period"):
            self.assertIn(name, vars(Ring))
        for name in ("text", "period"):
            self.assertIsInstance(vars(Ring)[name], property)


class MakingTest(Case):
    def test_all_turnings_give_equal_rings(self):
        for word in words("ab", 7):
            least = min(turnings(word))
            period = len(set(turnings(word)))
            for turning in turnings(word):
                ring = Ring(turning)
                self.assertEqual(ring, Ring(word))
                self.assertEqual((ring.text, ring.period, len(ring), list(ring)),
                                 (least, period, len(word), list(least)))

    def test_three_signs(self):
        for word in words("acz", 4):
            self.assertEqual(Ring(word).text, min(turnings(word)))

    def test_by_name(self):
        self.assertEqual(Ring(text="ba"), Ring("ab"))
        self.assertEqual(Ring("ab").turned(i=1), "ba")

    def test_text_and_period_are_not_assigned(self):
        ring = Ring("ba")
        for name in ("text", "period"):
            with self.assertRaises(AttributeError):
                setattr(ring, name, "c")
        self.assertEqual((ring.text, ring.period), ("ab", 2))

    def test_words_that_repeat_themselves(self):
        for word, period in (("aaaa", 1), ("baba", 2), ("abaaba", 3), ("cabcab", 3), ("aabb", 4), ("ababa", 5)):
            self.assertEqual(Ring(word).period, period)
            self.assertEqual(len(Ring(word)), len(word))

    def test_words_of_one_sign(self):
        for sign in "abcdefghijklmnopqrstuvwxyz":
            ring = Ring(sign)
            self.assertEqual((ring.text, str(ring), ring.period, len(ring), list(ring)), (sign, sign, 1, 1, [sign]))

    def test_words_of_600_signs(self):
        self.assertEqual(Ring("a" * 600).period, 1)
        self.assertEqual(Ring("ba" * 300).text, "ab" * 300)
        self.assertEqual(Ring("ba" * 300).period, 2)
        for place in (0, 1, 299, 599):
            ring = Ring(LONGEST[place:] + LONGEST[:place])
            self.assertEqual((ring.text, ring.period, len(ring)), (LONGEST, 600, 600))

    def test_what_is_no_word(self):
        for value in NO_WORDS:
            with self.subTest(value=value):
                self.refuses(InvalidWord, value, lambda: Ring(value))

    def test_each_character_that_is_no_sign(self):
        for code in [10] + list(range(32, 127)):
            character = chr(code)
            if "a" <= character <= "z":
                continue
            for word in (character, "a" + character, character + "a", "a" + character + "a"):
                self.refuses(InvalidWord, word, lambda: Ring(word))

    def test_what_is_passed_does_not_change(self):
        value = ["b", "a"]
        self.refuses(InvalidWord, value, lambda: Ring(value))
        self.assertEqual(value, ["b", "a"])


class ReadingTest(Case):
    def test_the_sign_behind_a_place(self):
        for word in ("a", "ba", "cabab", "abab", "bbbacca"):
            ring = Ring(word)
            for i in range(-3 * len(word) - 1, 3 * len(word) + 2):
                self.assertEqual(ring[i], ring.text[i % len(word)])

    def test_far_away(self):
        ring = Ring("cabab")
        for i in (FAR, FAR + 1, FAR + 2, FAR + 3, FAR + 4, -FAR, 1 - FAR):
            self.assertEqual(ring[i], "ababc"[i % 5])
            self.assertEqual(ring[i, 7], read("ababc", i % 5, 7))
            self.assertEqual(ring.turned(i), read("ababc", i % 5, 5))

    def test_the_word_from_a_place(self):
        for word in ("a", "ba", "cabab", "abab"):
            ring = Ring(word)
            for i in range(-2 * len(word) - 1, 2 * len(word) + 2):
                for number in range(1, 3 * len(word) + 2):
                    self.assertEqual(ring[i, number], read(ring.text, i, number))

    def test_numbers_1_and_600(self):
        for word in ("a", "ba", "cabab", LONGEST):
            ring = Ring(word)
            for i in (-601, -600, -1, 0, 1, 299, 599, 600, 601):
                self.assertEqual(ring[i, 1], ring[i])
                self.assertEqual(ring[i, 600], read(ring.text, i, 600))
                self.assertEqual(ring[i, 599], read(ring.text, i, 599))

    def test_turned(self):
        for word in ("a", "ba", "cabab", "abab", LONGEST):
            ring = Ring(word)
            for i in (-601, -6, -1, 0, 1, 2, 4, 5, 6, 600):
                self.assertEqual(ring.turned(i), ring[i, len(ring)])
                self.assertEqual(Ring(ring.turned(i)), ring)
        self.assertEqual([Ring("abc").turned(i) for i in (-1, 0, 1, 2, 3)], ["cab", "abc", "bca", "cab", "abc"])

    def test_places_that_are_not_right(self):
        for word in ("ba", LONGEST):
            ring = Ring(word)
            text = ring.text
            for value in NO_PLACES:
                with self.subTest(value=value):
                    self.refuses(InvalidPlace, value, lambda: ring[value])
                    self.assertEqual((ring.text, ring), (text, Ring(word)))

    def test_turned_by_what_is_no_integer(self):
        ring = Ring("ba")
        for value in NO_PLACES + ((0, 1), (1, 2)):
            with self.subTest(value=value):
                self.refuses(InvalidPlace, value, lambda: ring.turned(value))
                self.assertEqual((ring.text, ring.period), ("ab", 2))

    def test_iterating_gives_the_signs_once(self):
        self.assertEqual(list(Ring("cabab")), list("ababc"))
        self.assertEqual([sign for sign in Ring("ba")], ["a", "b"])
        self.assertEqual(tuple(Ring("a")), ("a",))
        self.assertEqual(list(Ring(LONGEST)), list(LONGEST))

    def test_iterating_twice_at_once(self):
        ring = Ring("ba")
        self.assertEqual([one + other for one in ring for other in ring], ["aa", "ab", "ba", "bb"])

    def test_text_length_and_truth(self):
        for word in ("a", "ba", LONGEST):
            ring = Ring(word)
            self.assertEqual(str(ring), ring.text)
            self.assertIs(type(str(ring)), str)
            self.assertEqual(len(ring), len(word))
            self.assertIs(bool(ring), True)


class OperatorsTest(Case):
    def test_the_other_way_round(self):
        for word in words("ab", 6):
            ring = Ring(word)
            self.assertEqual((~ring).text, min(turnings(word[::-1])))
            self.assertEqual(~~ring, ring)
        self.assertEqual((~Ring(LONGEST)).text, min(turnings(LONGEST[::-1])))
        self.assertIs(type(~Ring("ab")), Ring)
        self.assertNotEqual(~Ring("abc"), Ring("abc"))

    def test_times(self):
        for word in ("a", "ba", "cabab"):
            ring = Ring(word)
            for times in range(1, 8):
                self.assertEqual((ring * times).text, ring.text * times)
                self.assertEqual((ring * times).period, ring.period)
            self.assertEqual(ring * 1, ring)

    def test_times_up_to_600_signs(self):
        self.assertEqual((Ring("a") * 600).text, "a" * 600)
        self.assertEqual((Ring("ba") * 300).text, "ab" * 300)
        self.assertEqual((Ring(LONGEST) * 1).text, LONGEST)
        for word, times in (("a", 601), ("ba", 301), ("abcdefg", 86), (LONGEST, 2), ("a" * 301, 2), ("a", FAR)):
            ring = Ring(word)
            self.refuses(InvalidWord, times, lambda: ring * times)
            self.assertEqual(ring, Ring(word))

    def test_times_what_is_no_number(self):
        for word in ("ba", LONGEST):
            ring = Ring(word)
            for value in NO_INTEGERS + (0, -1, -FAR, (), (2,)):
                with self.subTest(value=value):
                    self.refuses(InvalidNumber, value, lambda: ring * value)
                    self.assertEqual((ring.text, ring), (min(turnings(word)), Ring(word)))

    def test_both_texts(self):
        for one in words("ab", 4):
            for other in words("ab", 4):
                both = Ring(one) + Ring(other)
                self.assertEqual(both, Ring(Ring(one).text + Ring(other).text))
                self.assertEqual(len(both), len(one) + len(other))
        self.assertEqual((Ring("ba") + Ring("a")).text, "aab")

    def test_both_texts_up_to_600_signs(self):
        self.assertEqual((Ring("a" * 599) + Ring("b")).text, "a" * 599 + "b")
        for one, other in (("a" * 600, "b"), ("a", LONGEST), (LONGEST, LONGEST), ("a" * 301, "b" * 300)):
            ring, second = Ring(one), Ring(other)
            self.refuses(InvalidWord, second, lambda: ring + second)
            self.assertEqual((ring, second), (Ring(one), Ring(other)))

    def test_both_texts_with_what_is_no_ring(self):
        for word in ("ba", LONGEST):
            ring = Ring(word)
            for value in (None, True, False, 0, 1, 601, "", "a", "ab", LONGEST, b"a", (), ("a",), [], ["a"], {}, Ring):
                with self.subTest(value=value):
                    self.refuses(NotARing, value, lambda: ring + value)
                    self.assertEqual((ring.text, ring), (min(turnings(word)), Ring(word)))

    def test_operators_change_no_ring(self):
        one, other = Ring("cabab"), Ring("ba")
        results = [one * 2, one + other, other + one, ~one, one[3, 9], one.turned(2), "ab" in one]
        self.assertEqual(len(results), 7)
        self.assertEqual((one.text, one.period, other.text, other.period), ("ababc", 5, "ab", 2))


class ComparingTest(Case):
    def test_rings(self):
        self.assertTrue(Ring("ab") == Ring("ba"))
        self.assertFalse(Ring("ab") != Ring("ba"))
        for one, other in (("ab", "abab"), ("a", "b"), ("abc", "acb"), ("a", "aa"), ("aabb", "abab")):
            self.assertFalse(Ring(one) == Ring(other))
            self.assertTrue(Ring(one) != Ring(other))

    def test_other_values(self):
        ring = Ring("ab")
        for value in ("ab", "ba", b"ab", None, True, False, 0, 1, 2, ("a", "b"), ["a", "b"], {"a", "b"}, {"a": "b"}, (),
                      Ring, object(), Equal()):
            with self.subTest(value=value):
                self.assertIs(ring == value, False)
                self.assertIs(ring != value, True)
        for value in ("ab", None, True, 2, ("a", "b"), ["a", "b"]):
            with self.subTest(value=value):
                self.assertIs(value == ring, False)
                self.assertIs(value != ring, True)


class ContainingTest(Case):
    def test_each_short_word(self):
        for word in words("ab", 4):
            ring = Ring(word)
            for number in range(1, 8):
                readable = {read(word, place, number) for place in range(len(word))}
                for signs in itertools.product("abc", repeat=number):
                    asked = "".join(signs)
                    self.assertIs(asked in ring, asked in readable)

    def test_words_longer_than_the_ring(self):
        self.assertIn("cabab" * 3, Ring("ababc"))
        self.assertIn("a" * 600, Ring("a"))
        self.assertIn("ab" * 300, Ring("ab"))
        self.assertIn("b" + "ab" * 299 + "a", Ring("ab"))
        self.assertNotIn("ab" * 299 + "aa", Ring("ab"))
        for place in range(7):
            for number in (8, 13, 14, 15, 599, 600):
                self.assertIn(read("aaabbbc", place, number), Ring("bbbcaaa"))

    def test_words_in_a_ring_of_600_signs(self):
        ring = Ring(LONGEST)
        for place in (0, 1, 300, 599):
            self.assertIn(read(LONGEST, place, 600), ring)
            self.assertIn(read(LONGEST, place, 1), ring)
        self.assertIn("ca", ring)
        self.assertNotIn("ac", ring)

    def test_what_is_no_word(self):
        for ring in (Ring("a"), Ring("ab"), Ring(LONGEST)):
            for value in NO_WORDS + (("a", "b"), 10 ** 399, slice(0, 1)):
                with self.subTest(value=value):
                    self.assertIs(value in ring, False)
                    self.assertIs(value not in ring, True)


if __name__ == "__main__":
    unittest.main()
