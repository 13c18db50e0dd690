import itertools
import random
import unittest

from asked_tests import AskedTests
from by_hand import (
    ANEW, EVERY, FAR, ODD, SHIFTS, SWITCH, Case, Equal, loop_of, number_of_stands, some_loop)
from samples import JUST_600, JUST_601, KINDS
from wherebegun.begun import settles
from wherebegun.errors import InvalidChanges, InvalidNumber, TooMany
from wherebegun.kinds import Kind
from wherebegun.loops import Loop
from wherebegun.mends import mends
from wherebegun.rings import Ring

CHANGES = (("turn", "p", "p", 0), ("turn", "q", "q", 0), ("begin", "p"))
NO_NUMBERS = (
    -1, 10, 11, FAR, -FAR, None, True, False, "1", "", b"1", (), (1,), [1], {}, SHIFTS, EVERY, Ring("a"), Equal())
NO_TUPLES = (None, True, 0, 1, "", "row", [], [("begin", "p")], {}, {("begin", "p")}, SHIFTS, EVERY, Ring("a"), Equal())
NO_CHANGES = (
    None, True, 0, "", "begin", (), [], ("begin",), ("begin", "x"), ("begin", "p", "p"), ["begin", "p"],
    ("begin", ("p",)), ("begin", None), ("end", "p"), ("turn", "p"), ("turn", "p", "p"), ("turn", "p", "x", 0),
    ("turn", "x", "p", 0), ("turn", "p", "p", True), ("turn", "p", "p", None), ("turn", "p", "p", 0, 0),
    ("row", "p", "a", "p"), ("row", "p", "c", "p", 0), ("row", "p", "ab", "p", 0), ("row", "p", "", "p", 0),
    ("row", "x", "a", "p", 0), ("row", "p", "a", "x", 0), ("row", "p", "a", "p", False), ("row", "p", "a", "p", "0"),
    ("row", "p", "a", "p", 0, 0), (Equal(), "p"), ("begin", Equal()), ("turn", Equal(), "p", 0), Equal(), SHIFTS, EVERY)


def least_sets(loop, kind, changes, rounds):
    """All sets tried one by one."""
    settling = []
    for size in range(len(changes) + 1):
        for chosen in itertools.combinations(range(len(changes)), size):
            other = loop
            for index in chosen:
                other = other.changed(changes[index])
            number = settles(other, kind)
            if number is not None and number <= rounds:
                settling.append(chosen)
    return tuple(chosen for chosen in settling
                 if not any(set(part) < set(chosen) for part in settling))


def some_changes(source, loop, number):
    """So many changes of the loop at most, no two of one row, of one turn or of the beginning."""
    states = loop.states
    found = {}
    for _ in range(number):
        what = source.choice(("row", "turn", "turn", "begin"))
        state, further, amount = source.choice(states), source.choice(states), source.choice((-1, 0, 0, 1))
        if what == "row":
            sign = source.choice(loop.signs)
            found[what, state, sign] = (what, state, sign, further, amount)
        elif what == "turn":
            found[what, state] = (what, state, further, amount)
        else:
            found[what] = (what, state)
    return tuple(source.sample(list(found.values()), len(found)))


class ExamplesTest(Case):
    def test_examples_of_the_document(self):
        anew, shifts, every, changes = ANEW, SHIFTS, EVERY, CHANGES
        self.assertEqual([mends(anew, every, changes, 1), mends(anew, every, changes, 0), mends(shifts, every, changes, 1)],
                         [((0, 1),), (), ((),)])


class MendsTest(Case):
    def test_against_all_sets_tried_one_by_one(self):
        source = random.Random(1)
        found = set()
        sizes = set()
        for _ in range(400):
            kind = source.choice(KINDS)
            loop = some_loop(source, "ab", source.choice((1, 2, 3, 3)), source.choice((0, 1)))
            changes = some_changes(source, loop, source.choice((0, 2, 4, 6, 8)))[:6]
            for rounds in (0, source.choice((1, 2, 9))):
                told = mends(loop, kind, changes, rounds)
                self.assertEqual(told, least_sets(loop, kind, changes, rounds))
                self.assertEqual({type(told)} | {type(chosen) for chosen in told}, {tuple})
                found.add(len(told))
                sizes |= {len(chosen) for chosen in told}
        self.assertTrue({0, 1, 2} <= found, found)
        self.assertTrue({0, 1, 2} <= sizes, sizes)

    def test_six_changes_of_one_loop(self):
        changes = (("begin", "q"), ("turn", "n", "p", 1), ("row", "p", "b", "q", 0), ("row", "q", "a", "p", 0),
                   ("turn", "p", "p", 0), ("turn", "q", "q", 0))
        for rounds in (0, 1, 9):
            told = mends(ANEW, EVERY, changes, rounds)
            self.assertEqual(told, least_sets(ANEW, EVERY, changes, rounds))
        # A sign b behind an a is no longer counted, or counted wherever it stands; an a behind a b likewise.
        self.assertEqual(mends(ANEW, EVERY, changes, 9), ((2, 3), (2, 5), (3, 4), (4, 5)))

    def test_the_order_of_the_answer(self):
        changes = (("turn", "q", "q", 0), ("row", "p", "b", "q", 0), ("turn", "p", "p", 0), ("row", "q", "a", "p", 0))
        self.assertEqual(mends(ANEW, EVERY, changes, 1), ((0, 1), (0, 2), (1, 3), (2, 3)))
        self.assertEqual(mends(ANEW, EVERY, changes[::2] + changes[1::2], 1), ((0, 1), (0, 2), (1, 3), (2, 3)))

    def test_fewer_changes_first(self):
        two = loop_of({"a": "qp", "b": "pp"}, {"a": (1, -1), "b": (0, -1)}, None, None, "p")
        changes = (("begin", "q"), ("turn", "p", "q", 1), ("turn", "q", "p", 0), ("row", "p", "b", "p", -1))
        self.assertEqual(mends(two, SWITCH, changes, 0), ((1,), (2, 3)))
        self.assertEqual(mends(two, SWITCH, changes[::-1], 0), ((2,), (0, 1)))
        three = loop_of(
            {"a": "pqr", "b": "qrr"}, {"a": (-1, 0, 1), "b": (-1, 1, -1)}, "qqq", (0, 1, 0), "p")
        changes = (("row", "p", "b", "q", 1), ("turn", "r", "q", -1), ("begin", "p"), ("row", "r", "a", "r", 0),
                   ("row", "q", "a", "p", -1), ("turn", "q", "r", 0))
        kind = Kind("ab", ("ab", "ba", "bb"))
        self.assertEqual(mends(three, kind, changes, 1), least_sets(three, kind, changes, 1))
        self.assertEqual(mends(three, kind, changes, 1), ((3,), (0, 1, 4)))

    def test_a_set_that_settles_though_a_greater_one_does_not(self):
        changes = CHANGES + (("turn", "n", "q", 1),)
        self.assertEqual(mends(ANEW, EVERY, changes, 1), least_sets(ANEW, EVERY, changes, 1))
        self.assertEqual(mends(SHIFTS, EVERY, (("turn", "p", "n", 0),), 1), ((),))

    def test_changes_are_done_in_the_order_of_their_indexes(self):
        # In whatever order they are done, the beginning and the rows tell the same.
        told = mends(ANEW, EVERY, (("begin", "p"), ("turn", "q", "q", 0), ("turn", "p", "p", 0)), 1)
        self.assertEqual(told, ((1, 2),))

    def test_no_changes(self):
        self.assertEqual(mends(SHIFTS, EVERY, (), 1), ((),))
        self.assertEqual(mends(SHIFTS, EVERY, (), 0), ())
        self.assertEqual(mends(ANEW, EVERY, (), 9), ())

    def test_changes_that_change_nothing(self):
        changes = (("begin", "n"), ("turn", "p", "n", 0), ("row", "n", "a", "p", 0))
        self.assertEqual(mends(ANEW, EVERY, changes, 9), ())
        self.assertEqual(mends(ANEW, Kind("a"), changes, 9), ((),))


class StandsTest(Case):
    def test_more_than_600_stands_after_some_set_alone(self):
        # The loop has few stands; with both other rows it has 601, with one of them fewer.
        less = loop_of({"a": "pspqq", "b": "trpst"})
        rows = (("row", "p", "a", "r", 0), ("row", "t", "b", "r", 0))
        self.assertEqual(less.changed(rows[0]).changed(rows[1]), JUST_601)
        numbers = [number_of_stands([loop], EVERY) for loop in (less, less.changed(rows[0]), less.changed(rows[1]))]
        self.assertLessEqual(max(numbers), 600)
        self.assertEqual(settles(less, EVERY), 0)
        self.refuses(TooMany, 600, lambda: mends(less, EVERY, rows, 9), "limit")
        self.refuses(TooMany, 600, lambda: mends(less, EVERY, rows[::-1] + (("begin", "q"),), 0), "limit")
        self.assertEqual([mends(less, EVERY, rows[:1], 0), mends(less, EVERY, rows[1:], 0)], [((),), ((),)])
        self.assertEqual(mends(less, SWITCH, rows, 0), ((),))

    def test_more_than_600_stands_without_the_changes_alone(self):
        less = (("row", "p", "a", "p", 0), ("row", "t", "b", "t", 0))
        self.assertLessEqual(number_of_stands([JUST_601.changed(less[0]).changed(less[1])], EVERY), 600)
        self.refuses(TooMany, 600, lambda: mends(JUST_601, EVERY, less, 0), "limit")

    def test_just_600_stands(self):
        self.assertEqual(mends(JUST_600, EVERY, (("begin", "t"), ("turn", "q", "q", 0)), 9), ())


class ChangesTest(Case):
    def wrong(self, index, changes, loop=SHIFTS):
        self.refuses(InvalidChanges, index, lambda: mends(loop, EVERY, changes, 1), "index")

    def test_no_tuple(self):
        for value in NO_TUPLES:
            self.wrong(None, value)

    def test_no_change_of_the_loop(self):
        for value in NO_CHANGES:
            self.wrong(0, (value,))
            self.wrong(2, CHANGES[:2] + (value,))
            self.wrong(1, (CHANGES[0], value, value, CHANGES[0]))

    def test_two_of_the_same(self):
        row, turn, begin = ("row", "p", "a", "p", 0), ("turn", "p", "p", 0), ("begin", "p")
        for one, other in ((row, row), (row, ("row", "p", "a", "q", 7)), (turn, turn), (turn, ("turn", "p", "n", 9)),
                           (begin, begin), (begin, ("begin", "n"))):
            self.wrong(1, (one, other))
            self.wrong(3, (one, ("turn", "n", "n", 0), ("row", "p", "b", "p", 0), other))
        right = (row, turn, begin, ("row", "q", "a", "p", 0), ("row", "p", "b", "p", 0), ("turn", "q", "p", 0))
        self.assertEqual(mends(SHIFTS, EVERY, right, 1), least_sets(SHIFTS, EVERY, right, 1))

    def test_more_than_six(self):
        rows = tuple(("row", state, sign, "p", 0) for state in "npq" for sign in "ab")
        self.assertEqual(mends(SHIFTS, EVERY, rows, 1), ((),))
        self.wrong(6, rows + (("begin", "p"),))
        self.wrong(6, rows + rows)
        self.wrong(6, rows + (None,))
        self.wrong(6, rows + (("begin", "p"), None))
        self.wrong(6, rows + (("begin", "p"), ("begin", "p")))
        self.wrong(5, rows[:5] + (None,) + rows[:1])
        self.wrong(3, rows[:3] + rows[:1] + rows)

    def test_changes_of_another_loop(self):
        self.wrong(0, CHANGES, ODD)
        self.wrong(1, (("begin", "o"), ("begin", "p")), ODD)
        self.wrong(0, (("row", "p", "c", "p", 0),))


class ErrorsTest(AskedTests, Case):
    ASKED = ((mends, ("loop", "kind", "changes", "rounds"), (SHIFTS, EVERY, CHANGES, 9)),)
    WRONG = {"changes": (InvalidChanges, NO_TUPLES), "rounds": (InvalidNumber, NO_NUMBERS)}

    def test_numbers_from_0_to_9(self):
        for rounds in range(10):
            self.assertEqual(mends(SHIFTS, EVERY, (), rounds), ((),) if rounds else ())

    def test_wrong_numbers_come_ahead_of_too_many(self):
        for value in NO_NUMBERS:
            self.refuses(InvalidNumber, value, lambda: mends(JUST_601, EVERY, (), value))
        self.refuses(InvalidChanges, 0, lambda: mends(JUST_601, Kind("abc"), (None,), None), "index")


if __name__ == "__main__":
    unittest.main()
