import inspect
import itertools
import unittest

from by_hand import ANEW, EVERY, NO_SIGNS, SWITCH, Case, Equal, is_of, turnings, words
from wherebegun import kinds
from wherebegun.errors import InvalidNumber, InvalidPairs, InvalidRow, InvalidSigns, NoRing, NotAKind
from wherebegun.kinds import Kind
from wherebegun.rings import Ring

NO_TUPLES = (
    True, False, 0, 1, "", "ab", "aa", b"ab", [], ["ab"], {}, {"ab": 1}, {"ab"}, Kind, EVERY, Ring("ab"), Equal())
NO_PAIRS = (
    "", "a", "b", "aba", "abab", "ac", "ca", "cc", "aB", "AB", "a ", "a\n", "1a", None, True, False, 0, 1, b"ab",
    ("a", "b"), ["a", "b"], ("ab",), ["ab"], {"ab"}, {}, Ring("ab"), EVERY, Kind, Equal(),
)
SOME_PAIRS = (
    None, (), ("aa",), ("ab",), ("ab", "ba"), ("aa", "ab"), ("aa", "bb"), ("aa", "ab", "ba"), ("ab", "bc", "ca"),
    ("ab", "ba", "cc"), ("ab", "bc", "ac"), ("ab", "bc", "ca", "bb"), ("aa", "ab", "bc", "cc"))


def pairs_of(signs):
    return tuple(first + second for first in sorted(signs) for second in sorted(signs))


def subsets(values):
    return [chosen for size in range(len(values) + 1) for chosen in itertools.combinations(values, size)]


class ExamplesTest(Case):
    def test_examples_of_the_document(self):
        every, switch = Kind("ab"), Kind("ab", ("ab", "ba"))
        self.assertEqual(
            [every.pairs, Ring("abab") in switch, Ring("aab") in switch, bool(Kind("ab", ("ab",))),
             (every & switch) == switch],
            [("aa", "ab", "ba", "bb"), True, False, False, True])

    def test_what_is_listed_stands_in_the_class_itself(self):
        self.assertEqual(Kind.__module__, "wherebegun.kinds")
        self.assertIs(vars(kinds)["Kind"], Kind)
        for name in ("__init__", "__eq__", "__contains__", "__bool__", "__and__", "made", "rings"):
            self.assertIn(name, vars(Kind))
        for name in ("signs", "pairs", "row"):
            self.assertIsInstance(vars(Kind)[name], property)
        self.assertIsInstance(vars(Kind)["made"], classmethod)


class MakingTest(Case):
    def test_signs_in_any_order(self):
        for signs in ("a", "ab", "abc", "bdxz"):
            for told in itertools.permutations(signs):
                kind = Kind("".join(told))
                self.assertEqual((kind.signs, kind.pairs), (signs, pairs_of(signs)))

    def test_pairs_in_any_order(self):
        for chosen in subsets(pairs_of("ab")):
            for told in itertools.permutations(chosen):
                for signs in ("ab", "ba"):
                    kind = Kind(signs, told)
                    self.assertEqual((kind.signs, kind.pairs, kind.row), ("ab", chosen, ("ab", chosen)))
                    self.assertEqual(kind, Kind("ab", chosen))

    def test_none_and_all_pairs_are_alike(self):
        for signs in ("a", "ba", "abc", "zxdb"):
            one, other = Kind(signs), Kind(signs, pairs_of(signs)[::-1])
            self.assertEqual(one, other)
            self.assertEqual(Kind(signs, None), one)
            self.assertEqual(one.row, other.row)
        self.assertEqual(len(Kind("abcd").pairs), 16)

    def test_by_name(self):
        self.assertEqual(Kind(pairs=("ba", "ab"), signs="ba"), SWITCH)
        self.assertEqual(Kind(signs="ab"), EVERY)
        self.assertEqual(Kind("ab", pairs=None), EVERY)

    def test_kinds_of_values(self):
        kind = Kind("ba", ("ba", "ab"))
        self.assertEqual([type(kind.signs), type(kind.pairs), type(kind.row)], [str, tuple, tuple])

    def test_properties_are_not_assigned(self):
        kind = Kind("ab", ("ab", "ba"))
        for name in ("signs", "pairs", "row"):
            with self.assertRaises(AttributeError):
                setattr(kind, name, "b")
        self.assertEqual(kind.row, ("ab", ("ab", "ba")))

    def test_what_are_no_signs(self):
        for value in NO_SIGNS:
            with self.subTest(value=value):
                self.refuses(InvalidSigns, value, lambda: Kind(value))
                # The signs come first, whatever the pairs are.
                self.refuses(InvalidSigns, value, lambda: Kind(value, ["x"]))

    def test_each_character_that_is_no_sign(self):
        for code in [10] + list(range(32, 127)):
            if not "a" <= chr(code) <= "z":
                value = "b" + chr(code)
                self.refuses(InvalidSigns, value, lambda: Kind(value))

    def test_what_is_no_tuple_of_pairs(self):
        for value in NO_TUPLES:
            with self.subTest(value=value):
                self.refuses(InvalidPairs, None, lambda: Kind("ab", value), "index")

    def test_the_first_pair_that_is_not_right(self):
        for value in NO_PAIRS:
            with self.subTest(value=value):
                self.refuses(InvalidPairs, 0, lambda: Kind("ab", (value,)), "index")
                self.refuses(InvalidPairs, 1, lambda: Kind("ab", ("ab", value)), "index")
                self.refuses(InvalidPairs, 2, lambda: Kind("ba", ("bb", "ab", value, "aa", "zz")), "index")
                self.refuses(InvalidPairs, 0, lambda: Kind("ba", (value, value, "bb", "bb")), "index")

    def test_pairs_that_stand_twice(self):
        self.refuses(InvalidPairs, 1, lambda: Kind("ab", ("ab", "ab")), "index")
        self.refuses(InvalidPairs, 2, lambda: Kind("ab", ("ab", "ba", "ab", "zz")), "index")
        self.refuses(InvalidPairs, 4, lambda: Kind("ab", ("aa", "ab", "ba", "bb", "aa")), "index")
        self.refuses(InvalidPairs, 1, lambda: Kind("a", ("aa", "aa")), "index")


class RowTest(Case):
    def test_made_of_the_row(self):
        for chosen in subsets(pairs_of("bc")):
            kind = Kind("cb", chosen)
            self.assertEqual(Kind.made(kind.row), kind)
            self.assertEqual(Kind.made(row=("bc", chosen)).row, ("bc", chosen))
            self.assertIs(type(Kind.made(kind.row)), Kind)

    def test_made_of_what_is_no_row(self):
        for value in (
                ("ba", ("ab",)), ("ab", ("ba", "ab")), ("ab", None), ("ab", ("ab", "ab")), ("ab", ["ab"]), ("ab", "ab"),
                ("ab", ("ac",)), ("ab", (None,)), ("ab", (("a", "b"),)), ("aa", ("aa",)), ("", ()), ("abcde", ()),
                ("ab",), ("ab", (), ()), ("ab", ("ab",), None), (("ab",), "ab"), (("ab",), ("ab",)), ["ab", ("ab",)],
                (), None,
                True, 0, "ab", b"ab", [], {}, EVERY, Kind, (EVERY, ()), (None, ()), (True, ()), (["a"], ("aa",)),
                ("ab", (True,)), ("ab", True), Ring("ab"), Equal(), (Equal(), Equal()), ("ab", Equal())):
            with self.subTest(value=value):
                self.refuses(InvalidRow, value, lambda: Kind.made(value))


class ComparingTest(Case):
    def test_kinds(self):
        rows = [Kind(signs, chosen) for signs in ("a", "ab", "b", "ac") for chosen in subsets(pairs_of(signs))]
        for at, one in enumerate(rows):
            for place, other in enumerate(rows):
                self.assertIs(one == other, at == place)
                self.assertIs(one != other, at != place)

    def test_other_values(self):
        for value in ("ab", None, True, 0, SWITCH.row, list(SWITCH.row), Ring("ab"), Kind, ANEW, Equal(), object()):
            with self.subTest(value=value):
                self.assertIs(SWITCH == value, False)
                self.assertIs(SWITCH != value, True)


class ContainingTest(Case):
    def test_all_short_rings_from_any_turning(self):
        for signs in ("a", "ab", "abc"):
            for pairs in SOME_PAIRS:
                if any(sign not in signs for pair in pairs or () for sign in pair):
                    continue
                kind = Kind(signs, pairs)
                for length in range(1, 5):
                    for word in words("abc", length):
                        for turning in turnings(word):
                            self.assertIs(Ring(turning) in kind, is_of(word, signs, kind.pairs))

    def test_rings_of_one_sign(self):
        self.assertIs(Ring("a") in Kind("ab", ("aa",)), True)
        self.assertIs(Ring("b") in Kind("ab", ("aa",)), False)
        self.assertIs(Ring("a") in SWITCH, False)
        self.assertIs(Ring("c") in EVERY, False)
        self.assertIs(Ring("a") not in SWITCH, True)

    def test_the_last_sign_with_the_first_one(self):
        self.assertIs(Ring("abc") in Kind("abc", ("ab", "bc")), False)
        self.assertIs(Ring("abc") in Kind("abc", ("ab", "bc", "ca")), True)
        self.assertIs(Ring("ab" * 300) in SWITCH, True)
        self.assertIs(Ring("ab" * 299 + "a") in SWITCH, False)

    def test_other_values(self):
        for value in ("a", "ab", "aabb", "", None, True, 0, ("a", "b"), ["ab"], {}, EVERY, Kind, Ring, ANEW, Equal()):
            with self.subTest(value=value):
                self.assertIs(value in EVERY, False)
                self.assertIs(value not in EVERY, True)


class TruthTest(Case):
    def test_a_kind_is_true_if_it_has_a_ring(self):
        for signs in ("ab", "bc"):
            for chosen in subsets(pairs_of(signs)):
                has = any(is_of(word, signs, chosen) for length in (1, 2) for word in words(signs, length))
                self.assertIs(bool(Kind(signs, chosen)), has)

    def test_three_signs(self):
        for chosen in subsets(("ab", "ac", "ba", "bb", "bc", "ca", "cb")):
            has = any(is_of(word, "abc", chosen) for length in (1, 2, 3) for word in words("abc", length))
            self.assertIs(bool(Kind("abc", chosen)), has)

    def test_four_signs(self):
        self.assertIs(bool(Kind("abcd", ("ab", "bc", "cd", "da"))), True)
        self.assertIs(bool(Kind("abcd", ("ab", "ac", "ad", "bc", "bd", "cd"))), False)
        self.assertIs(bool(Kind("abcd", ("ab", "bc", "cd", "db"))), True)
        self.assertIs(bool(Kind("abcd", ())), False)


class BothTest(Case):
    def test_the_rings_that_are_of_both(self):
        told = [("a", None), ("b", None), ("ba", None), ("ab", ("ab",)), ("ab", ("aa", "ba")), ("abc", None),
                ("cab", ("ab", "bc", "ca", "aa")), ("bcd", None), ("bcd", ("bb", "bc", "db"))]
        for one in [Kind(signs, pairs) for signs, pairs in told]:
            for other in [Kind(signs, pairs) for signs, pairs in told]:
                common = "".join(sign for sign in one.signs if sign in other.signs)
                if not common:
                    self.refuses_ring(lambda: one & other)
                    continue
                both = one & other
                self.assertEqual(both.row, (common, tuple(sorted(set(one.pairs) & set(other.pairs)))))
                self.assertEqual(both, other & one)
                for word in words("abcd", 3):
                    self.assertIs(Ring(word) in both, Ring(word) in one and Ring(word) in other)

    def refuses_ring(self, action):
        with self.assertRaises(NoRing) as held:
            action()
        self.assertIs(type(held.exception), NoRing)

    def test_without_a_common_sign(self):
        self.refuses_ring(lambda: Kind("ab") & Kind("cd"))
        self.refuses_ring(lambda: Kind("a") & Kind("b"))
        self.refuses_ring(lambda: Kind("a", ()) & Kind("b", ()))

    def test_a_common_sign_without_a_common_pair(self):
        self.assertEqual((Kind("ab", ("ab",)) & Kind("ab", ("ba",))).row, ("ab", ()))
        self.assertEqual((Kind("ab") & Kind("bc")).row, ("b", ("bb",)))
        self.assertEqual((Kind("ab", ("ab",)) & Kind("bc")).row, ("b", ()))

    def test_with_other_values(self):
        for value in (None, True, 0, "ab", ("ab", ("ab",)), ["ab"], EVERY.row, Ring("ab"), Kind, ANEW, Equal()):
            with self.subTest(value=value):
                self.refuses(NotAKind, value, lambda: EVERY & value)
                self.refuses(NotAKind, value, lambda: Kind("c") & value)

    def test_no_kind_changes(self):
        one, other = Kind("ab"), Kind("bc", ("bc", "cb"))
        self.assertEqual((one & other).row, ("b", ()))
        self.assertEqual((one, other), (Kind("ab"), Kind("bc", ("bc", "cb"))))


class RingsTest(Case):
    def check_rings(self, kind, length):
        told = [word for word in words(kind.signs, length)
                if is_of(word, kind.signs, kind.pairs) and word == min(turnings(word))]
        found = list(kind.rings(length))
        self.assertEqual([ring.text for ring in found], told)
        self.assertTrue(all(type(ring) is Ring for ring in found))

    def test_all_words_written_out(self):
        for signs, most in (("a", 9), ("ab", 9), ("abc", 6), ("abcd", 5), ("bxz", 5)):
            for length in range(1, most + 1):
                self.check_rings(Kind(signs), length)

    def test_some_pairs(self):
        for pairs in SOME_PAIRS:
            for length in range(1, 7):
                self.check_rings(Kind("abc", pairs), length)
        for chosen in subsets(pairs_of("ab")):
            for length in range(1, 8):
                self.check_rings(Kind("ab", chosen), length)

    def test_twice_and_by_name(self):
        kind = Kind("abc", ("ab", "bc", "ca", "ba"))
        first = [str(ring) for ring in kind.rings(6)]
        self.assertEqual([str(ring) for ring in kind.rings(length=6)], first)
        self.assertEqual(first, ["ababab", "abcabc"])
        self.assertEqual([(str(one), str(other)) for one in kind.rings(2) for other in kind.rings(2)], [("ab", "ab")])

    def test_a_generator(self):
        self.assertTrue(inspect.isgenerator(EVERY.rings(3)))
        self.assertEqual(list(Kind("ab", ()).rings(9)), [])
        self.assertEqual(next(EVERY.rings(9)), Ring("a" * 9))

    def test_what_is_no_length(self):
        for value in (0, 10, -1, 10 ** 399, None, True, False, "1", "", b"1", (1,), [1], {}, EVERY, Ring("a"), Kind):
            for kind in (EVERY, Kind("ab", ())):
                with self.subTest(value=value):
                    self.refuses(InvalidNumber, value, lambda: next(kind.rings(value)))
                    self.refuses(InvalidNumber, value, lambda: list(kind.rings(length=value)))


if __name__ == "__main__":
    unittest.main()
