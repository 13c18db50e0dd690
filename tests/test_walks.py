import random
import unittest

from by_hand import EVERY, ODD, SHIFTS, SWITCH, Case, loop_of, some_loop, words
from wherebegun.begun import alike, alike_anywhere, matters, spread, unlike
from wherebegun.kinds import Kind
from wherebegun.stands import Stands
from wherebegun.tables import Table
from wherebegun.walks import Walks

KINDS = (EVERY, SWITCH, Kind("ab", ("aa", "ab")), Kind("ab", ("aa", "ab", "ba")), Kind("ab", ("ab", "bb")), Kind("a"))


def samples(seed, number):
    source = random.Random(seed)
    for _ in range(number):
        kind = source.choice(KINDS)
        one = some_loop(source, "ab", source.choice((2, 2, 3)), 2)
        other = one if source.random() < 0.5 else some_loop(source, "ab", source.choice((1, 2)), 2)
        yield Table(one.row), Table(other.row), kind


def read(table, word, state):
    """The state behind the word and the sum of its amounts, without a turn."""
    total = 0
    for sign in word:
        total += table.amounts[sign][state]
        state = table.nexts[sign][state]
    return state, total


def stand_of(one, other, word):
    maps = [tuple(read(table, word, state)[0] for state in range(len(table.says))) for table in (one, other)]
    return (*maps, word[0], word[-1])


def words_of(kind, most):
    return [word for length in range(1, most + 1) for word in words(kind.signs, length)
            if all(word[at:at + 2] in kind.pairs for at in range(length - 1))]


def greatest_by_length(stands, walks, state, far):
    """The greatest sums by ever longer walks; None for a stand behind one whose sum has no end of growing."""
    number = len(stands.found)
    amount = {}
    for index, (leads_one, leads_other, _, _) in enumerate(stands.found):
        for sign, further in stands.steps[index]:
            near = stands.one.amounts[sign][leads_one[state]]
            amount[index, further] = walks.factor * (near - stands.other.amounts[sign][leads_other[far]])
    best = {}
    for sign, index in stands.starts:
        near, away = stands.one.amounts[sign][state], stands.other.amounts[sign][far]
        best[index] = walks.factor * (near - away)
    endless = set()
    for times in range(3 * number):
        for (index, further), more in amount.items():
            if index in best and best[index] + more > best.get(further, best[index] + more - 1):
                best[further] = best[index] + more
                if times > number:
                    endless.add(further)
            if index in endless:
                endless.add(further)
    return [None if index in endless else best[index] for index in range(number)]


class StandsTest(Case):
    def test_the_stands_of_all_short_words(self):
        for one, other, kind in samples(1, 40):
            stands = Stands(one, other, kind)
            number = {stand: index for index, stand in enumerate(stands.found)}
            self.assertEqual(len(number), len(stands.found))
            told = {stand_of(one, other, word) for word in words_of(kind, 9)}
            self.assertTrue(told <= set(number))
            if len(kind.signs) == 1 or len(number) < 20:
                self.assertEqual(told, set(number))
            self.assertEqual(dict(stands.starts), {sign: number[stand_of(one, other, sign)] for sign in kind.signs})
            for word in words_of(kind, 5):
                onward = {sign: number[stand_of(one, other, word + sign)]
                          for sign in kind.signs if word[-1] + sign in kind.pairs}
                self.assertEqual(dict(stands.steps[number[stand_of(one, other, word)]]), onward)

    def test_which_stands_fit(self):
        for one, other, kind in samples(2, 20):
            stands = Stands(one, other, kind)
            number = {stand: index for index, stand in enumerate(stands.found)}
            for near in words_of(kind, 3):
                for far in words_of(kind, 3):
                    fits = near[-1] + far[0] in kind.pairs and far[-1] + near[0] in kind.pairs
                    indexes = [number[stand_of(one, other, word)] for word in (near, far)]
                    self.assertIs(stands.fit(*indexes), fits)


class WalksTest(Case):
    def test_the_greatest_sums(self):
        found = []
        for one, other, kind in samples(3, 150):
            stands = Stands(one, other, kind)
            for factor in (1, -1):
                walks = Walks(stands, factor)
                for state in range(len(one.says)):
                    for far in range(len(other.says)):
                        told = greatest_by_length(stands, walks, state, far)
                        self.assertEqual(walks.greatest(state, far), told)
                        # Asked again, it is told again.
                        self.assertEqual(walks.greatest(state, far), told)
                        found.append((None in told, set(told) != {None}))
        self.assertEqual(set(found), {(True, True), (True, False), (False, True)})

    def test_two_words_with_different_sums(self):
        for one, other, kind in samples(4, 60):
            stands = Stands(one, other, kind)
            number = {stand: index for index, stand in enumerate(stands.found)}
            walks = Walks(stands)
            told = words_of(kind, 8)
            for state in range(len(one.says)):
                for far in range(len(other.says)):
                    short = [[] for _ in stands.found]
                    for word in told:
                        total = read(one, word, state)[1] - read(other, word, far)[1]
                        kept = short[number[stand_of(one, other, word)]]
                        if len(kept) < 2 and total not in [first for first, _ in kept]:
                            kept.append((total, len(word)))
                    self.check_few(walks.few(state, far), short)
                    for index, kept in enumerate(walks.few(state, far)):
                        for total, word in kept:
                            self.assertEqual(number[stand_of(one, other, word)], index)
                            self.assertEqual(read(one, word, state)[1] - read(other, word, far)[1], total)
                    singles = [kept[0][0] if len(kept) == 1 else None for kept in walks.few(state, far)]
                    self.assertEqual(walks.single(state, far), singles)

    def check_few(self, few, short):
        for kept, told in zip(few, short):
            self.assertIn(len(kept), (1, 2))
            # Where all words are longer than those written out, there is nothing to compare with.
            found = [(total, len(word)) for total, word in kept if len(word) <= 8]
            self.assertEqual([length for _, length in found], [length for _, length in told])
            self.assertEqual(len({total for total, _ in kept}), len(kept))

    def test_longer_words_that_add_more_with_the_same_stand(self):
        # The first sign a adds nothing, each further one does: but all words of signs a have one stand.
        loop = loop_of({"a": "qq", "b": "pq"}, {"a": (0, 1), "b": (0, 0)}, "pp")
        still = loop_of({"a": "p", "b": "p"})
        for kind in (Kind("a"), EVERY):
            self.assertIs(alike(loop, still, kind), False)
            self.assertEqual(unlike(loop, still, kind), ("aa", 1))
            self.assertIs(alike_anywhere(loop, still, kind), False)
        self.assertEqual((spread(loop, Kind("a"), 1), matters(loop, Kind("a"), 1)), (0, False))

    def test_from_one_state_twice_there_is_no_difference(self):
        for loop in (SHIFTS, ODD):
            table = Table(loop.row)
            stands = Stands(table, table, EVERY)
            for state in range(len(loop.states)):
                self.assertEqual(set(Walks(stands).greatest(state, state)), {0})
                self.assertEqual(set(Walks(stands).single(state, state)), {0})


if __name__ == "__main__":
    unittest.main()
