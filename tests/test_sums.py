import random
import unittest

from by_hand import (
    ANEW, EVERY, ODD, SHIFT_ROWS, SHIFTS, Case, Equal, answers, loop_of, some_loop, steps, words)
from wherebegun.errors import InvalidChanges, InvalidNumber, NotALoop, OtherSigns, TooMany
from wherebegun.loops import Loop
from wherebegun.rings import Ring

OTHERS = (None, True, False, 0, 1, "", "ab", (), [], {}, SHIFTS.row, EVERY, Ring("ab"), Loop, Equal())
NO_TIMES = (None, True, False, "", "1", b"1", (), (1,), [1], {}, -10, 10, 10 ** 399, -10 ** 399, SHIFTS, EVERY, Equal())


def pairs_of(one, other):
    """The pairs of states and the row of both at once, found one by one in a list that is gone through in order."""
    rows = [{(state, sign): further for state, sign, further, _ in loop.rows} for loop in (one, other)]
    turns = [{state: further for state, further, _ in loop.turns} for loop in (one, other)]
    found = [(one.states[0], other.states[0])]
    for first, second in found:
        onward = [(rows[0][first, sign], rows[1][second, sign]) for sign in one.signs]
        for pair in onward + [(turns[0][first], turns[1][second])]:
            if pair not in found:
                found.append(pair)
    return found


def small_loops(seed, number, signs="ab"):
    source = random.Random(seed)
    return [some_loop(source, signs, source.choice((1, 2, 2, 3)), 5) for _ in range(number)]


class SumsTest(Case):
    def check_both(self, one, other):
        number = len(pairs_of(one, other))
        if number > 6:
            self.refuses(TooMany, 6, lambda: one + other, "limit")
            self.refuses(TooMany, 6, lambda: one - other, "limit")
            return
        both, difference = one + other, one - other
        for loop in (both, difference):
            self.assertIs(type(loop), Loop)
            self.assertEqual(loop.signs, one.signs)
            self.assertEqual(loop.states, tuple(f"s{at}" for at in range(number)))
            self.check_names(loop, one, other)
        for word in words(one.signs, 3) + [one.signs * 2]:
            near, far = answers(one, word, 8), answers(other, word, 8)
            told = [(first[0] + second[0], first[1] and second[1]) for first, second in zip(near, far)]
            self.assertEqual(both(word, 8), tuple(told))
            told = [(first[0] - second[0], first[1] == second[1]) for first, second in zip(near, far)]
            self.assertEqual(difference(word, 8), tuple(told))

    def check_names(self, loop, one, other):
        name = {pair: f"s{at}" for at, pair in enumerate(pairs_of(one, other))}
        for word in words(one.signs, 4):
            for near, far, both in zip(steps(one, word, 8), steps(other, word, 8), steps(loop, word, 8)):
                self.assertEqual(both[2], name[near[2], far[2]])

    def test_against_both_run_one_by_one(self):
        loops = small_loops(1, 30)
        for one in loops:
            for other in loops:
                self.check_both(one, other)

    def test_other_signs_alike_in_both(self):
        for signs in ("a", "xyz", "abcd"):
            loops = small_loops(2, 6, signs)
            for one in loops:
                for other in loops:
                    self.check_both(one, other)

    def test_the_order_in_which_the_pairs_are_found(self):
        one = loop_of({"a": "qpr", "b": "prr"}, {"a": (1, 2, 3), "b": (10, 20, 30)}, "rpq", (100, 200, 300), "pr")
        other = loop_of({"b": "q" * 2, "a": "pq"}, {"b": (7, 7), "a": (5, 6)}, "pq", (0, 1000), "q")
        self.assertEqual(pairs_of(one, other)[:4], [("p", "p"), ("q", "p"), ("p", "q"), ("r", "p")])
        both = one + other
        self.assertEqual(both.states, ("s0", "s1", "s2", "s3", "s4", "s5"))
        self.assertEqual(both.rows[:4], (("s0", "a", "s1", 6), ("s0", "b", "s2", 17), ("s1", "a", "s0", 7),
                                         ("s1", "b", "s4", 27)))
        self.assertEqual(both.turns[:3], (("s0", "s3", 100), ("s1", "s0", 200), ("s2", "s4", 1100)))
        self.assertEqual((both.yes, (one - other).yes), (("s2", "s4"), ("s1", "s2", "s4")))
        self.assertEqual((one - other).rows[:2], (("s0", "a", "s1", -4), ("s0", "b", "s2", 3)))
        self.assertEqual((one - other).turns[2], ("s2", "s4", -900))

    def test_of_a_loop_with_itself(self):
        for loop in (SHIFTS, ANEW, ODD):
            self.check_both(loop, loop)
        self.assertEqual((ODD - ODD).states, ("s0", "s1"))
        self.assertEqual((ODD - ODD).yes, ("s0", "s1"))
        self.assertEqual((ODD + ODD).yes, ("s1",))

    def test_states_that_are_not_come_to_are_left_out(self):
        loop = loop_of({"a": "prq"})
        self.assertEqual((loop + loop).row, ("a", ("s0",), (("s0", "a", "s0", 0),), (("s0", "s0", 0),), ()))

    def test_six_states_and_more(self):
        six = loop_of({"a": "qrstup"}, {"a": (0, 0, 0, 0, 0, 1)})
        two, three = loop_of({"a": "qp"}), loop_of({"a": "qrp"})
        self.assertEqual(len((six + two).states), 6)
        self.assertEqual(len((two - three).states), 6)
        five = loop_of({"a": "qrstp"})
        self.refuses(TooMany, 6, lambda: five + two, "limit")
        self.refuses(TooMany, 6, lambda: two - five, "limit")
        # Seven pairs: one too many.
        late = loop_of({"a": "qrstuu"})
        self.assertEqual(len(pairs_of(late, two)), 7)
        self.refuses(TooMany, 6, lambda: late + two, "limit")

    def test_other_values(self):
        for value in OTHERS:
            with self.subTest(value=value):
                self.refuses(NotALoop, value, lambda: SHIFTS + value)
                self.refuses(NotALoop, value, lambda: SHIFTS - value)

    def test_loops_with_other_signs(self):
        for signs in ("a", "b", "c", "abc", "ac", "abcd"):
            # More than six pairs, too: the signs come first.
            other = loop_of({sign: "qrstup" for sign in signs})
            for one in (SHIFTS, loop_of({"a": "qrstp", "b": "pqrst"})):
                self.refuses(OtherSigns, other, lambda: one + other)
                self.refuses(OtherSigns, other, lambda: one - other)


class TimesTest(Case):
    def test_times(self):
        for loop in small_loops(3, 10) + [SHIFTS, ANEW, ODD]:
            for number in range(-9, 10):
                more = loop * number
                self.assertEqual((more.signs, more.states, more.yes), (loop.signs, loop.states, loop.yes))
                for word in words("ab", 3):
                    self.assertEqual(
                        more(word, 5), tuple((number * count, said) for count, said in answers(loop, word, 5)))
            self.assertEqual(loop * 1, loop)

    def test_times_what_is_no_number(self):
        for value in NO_TIMES:
            with self.subTest(value=value):
                self.refuses(InvalidNumber, value, lambda: SHIFTS * value)

    def test_opposites(self):
        for loop in small_loops(4, 20):
            self.assertEqual(-loop, loop * -1)
            self.assertEqual(--loop, loop)
            for word in words("ab", 3):
                self.assertEqual((-loop)(word, 5), tuple((-count, said) for count, said in answers(loop, word, 5)))

    def test_the_other_yes_states(self):
        for loop in small_loops(5, 20):
            self.assertEqual((~loop).row[:4], loop.row[:4])
            self.assertEqual((~loop).yes, tuple(state for state in loop.states if state not in loop.yes))
            self.assertEqual(~~loop, loop)
            for word in words("ab", 3):
                self.assertEqual(
                    (~loop)(word, 5), tuple((count, not said) for count, said in answers(loop, word, 5)))

    def test_no_loop_changes(self):
        rows = [SHIFTS.row, ODD.row, ANEW.row]
        results = [SHIFTS + ODD, SHIFTS - ANEW, ODD * 3, -ODD, ~ODD, ODD.changed(("begin", "o"))]
        self.assertEqual(results, [SHIFTS + ODD, SHIFTS - ANEW, ODD * 3, -ODD, ~ODD, ODD.changed(("begin", "o"))])
        self.assertEqual([SHIFTS.row, ODD.row, ANEW.row], rows)
        self.assertEqual([type(loop) for loop in results], [Loop] * 6)


class ChangesTest(Case):
    def test_another_row(self):
        for at, (state, sign, further, amount) in enumerate(SHIFT_ROWS):
            for new in ((state, sign, "n", 7), (state, sign, "q", amount), (state, sign, further, -1)):
                changed = ANEW.changed(("row", *new))
                self.assertEqual(changed.row, ("ab", ANEW.states, SHIFT_ROWS[:at] + (new,) + SHIFT_ROWS[at + 1:],
                                               ANEW.turns, ()))

    def test_another_turn(self):
        for at, state in enumerate(ANEW.states):
            for new in ((state, "p", 0), (state, "n", -10 ** 399), (state, state, 1)):
                changed = ANEW.changed(("turn", *new))
                turns = ANEW.turns[:at] + (new,) + ANEW.turns[at + 1:]
                self.assertEqual(changed.row, ("ab", ANEW.states, SHIFT_ROWS, turns, ()))

    def test_another_beginning(self):
        loop = Loop("ab", ("n", "p", "q"), SHIFT_ROWS, (("p", "n", 5),), yes=("n", "q"))
        for states, state in (("npq", "n"), ("pnq", "p"), ("qnp", "q")):
            changed = loop.changed(change=("begin", state))
            self.assertEqual(changed, Loop("ab", tuple(states), SHIFT_ROWS, (("p", "n", 5),), yes=("n", "q")))
            self.assertEqual(changed.states, tuple(states))
            self.assertEqual(changed.yes, tuple(name for name in states if name in "nq"))
            self.assertEqual([row[0] for row in changed.rows], [name for name in states for _ in "ab"])

    def test_what_is_there_already(self):
        self.assertEqual(SHIFTS.changed(("row", "p", "b", "q", 1)), SHIFTS)
        self.assertEqual(SHIFTS.changed(("turn", "p", "p", 0)), SHIFTS)
        self.assertEqual(SHIFTS.changed(("begin", "n")), SHIFTS)

    def test_one_behind_the_other(self):
        changed = ANEW.changed(("turn", "p", "p", 0)).changed(("turn", "q", "q", 0))
        self.assertEqual(changed, SHIFTS)
        changed = SHIFTS.changed(("begin", "q")).changed(("begin", "p"))
        self.assertEqual(changed.states, ("p", "q", "n"))
        self.assertEqual(changed("ba", 2), ((2, False), (2, False)))

    def test_what_is_no_change(self):
        for value in OTHERS + (
                "row", "begin", ("row",), ("turn",), ("begin",), ("begin", "x"), ("begin", ""), ("begin", "np"),
                ("begin", "n", "p"), ("begin", None), ("begin", ("n",)), ("begin", ["n"]), ["begin", "n"],
                ("BEGIN", "n"), (None, "n"), (True, "n"), (("begin",), "n"), (Equal(), "n"), ("begin", Equal()),
                (Equal(), "n", "a", "p", 0), (Equal(), "n", "p", 0), ("beginn", "n"), ("n", "begin"),
                ("row", "n", "a", "p"), ("row", "n", "a", "p", 0, 0),
                ("row", "x", "a", "p", 0), ("row", "n", "c", "p", 0), ("row", "n", "a", "x", 0),
                ("row", "n", "a", "p", True), ("row", "n", "a", "p", False), ("row", "n", "a", "p", None),
                ("row", "n", "a", "p", "0"), ("row", ["n"], "a", "p", 0), ("row", "n", "", "p", 0),
                ("row", "n", "ab", "p", 0), ("row", "n", "a", None, 0), ("row", ("n", "a", "p", 0)),
                ["row", "n", "a", "p", 0], ("turn", "n", "p"), ("turn", "n", "p", 0, 0), ("turn", "x", "p", 0),
                ("turn", "n", "x", 0), ("turn", "n", "p", True), ("turn", "n", "p", None), ("turn", "n", "a", "p", 0),
                ("row", "n", "p", 0), ("turn", ("n", "p", 0)), ["turn", "n", "p", 0], ("turn", "n", "p", [0]),
                ("begin", "n", 0), (1, 2), ("", "n"), (("begin", "n"),)):
            with self.subTest(value=value):
                self.refuses(InvalidChanges, None, lambda: SHIFTS.changed(value), "index")
        # What is a change of another loop only.
        self.refuses(InvalidChanges, None, lambda: ODD.changed(("begin", "n")), "index")
        self.refuses(InvalidChanges, None, lambda: loop_of({"c": "p"}).changed(("row", "p", "a", "p", 0)), "index")


if __name__ == "__main__":
    unittest.main()
