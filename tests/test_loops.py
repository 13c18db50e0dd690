import itertools
import unittest

from by_hand import ANEW, EVERY, NO_SIGNS, ODD, SHIFT_ROWS, SHIFTS, Case, Equal
from wherebegun import loops
from wherebegun.errors import InvalidRow, InvalidRows, InvalidSigns, InvalidStates, InvalidTurns
from wherebegun.loops import Loop
from wherebegun.rings import Ring

STATES = ("n", "p", "q")
TURNS = (("p", "n", 5), ("n", "q", -1))
HUGE = 10 ** 399
NO_TUPLES = (
    None, True, False, 0, 1, "", "n", "np", b"n", [], ["n"], {}, {"n": 1}, {"n"}, Loop, SHIFTS, Ring("a"), Equal())
NO_NAMES = (
    "", "A", "aB", "1", "1a", "_a", "a_", "a b", " a", "a ", "a\n", "\n", "a-", "-", "`", "{", "a{", "a:", "a/", "a@",
    "abcdefghi", "a" * 4000, None, True, False, 0, 1, b"a", ("a",), ["a"], {"a"}, {"a": 1}, (), [], Loop, SHIFTS,
    Ring("a"), Equal())
NO_STATES_OF = NO_NAMES + ("x", "np", "nn", "a", "n\n")
NO_SIGNS_OF = NO_NAMES + ("c", "n", "ab", "aa", "A", "b\n")
NO_AMOUNTS = (True, False, None, "", "1", "a", b"1", (), (1,), [], [1], {}, {1}, Loop, SHIFTS, Ring("a"), Equal())
NO_ROWS = NO_NAMES + (
    ("n", "a", "p"), ("n", "a", "p", 0, 0), ["n", "a", "p", 0], ("n", ["a"], "p", 0), (("n", "a"), "p", 0), "napo",
    ("n", "p", "a", 0), ("a", "n", "p", 0), (0, "p", "a", "n"), (("n", "a", "p", 0),))
NO_TURNS = NO_NAMES + (
    ("n", "p"), ("n", "p", 0, 0), ("n", "a", "p", 0), ["n", "p", 0], ("n", ["p"], 0), "np0", (0, "n", "p"),
    (("n", "p", 0),))


def without(rows, at):
    return rows[:at] + rows[at + 1:]


class ExamplesTest(Case):
    def test_examples_of_the_document(self):
        shifts, anew, odd = SHIFTS, ANEW, ODD
        self.assertEqual(
            [shifts("aab", 3), anew("aab", 3), shifts("aba", 2), shifts.answer("aab", 10 ** 30),
             shifts.total("aab", 1000)],
            [((1, False), (2, False), (2, False)), ((1, False), (1, False), (1, False)), ((2, False), (2, False)),
             (2, False), 1999])
        self.assertEqual(
            [odd("abbab", 2), odd("ab", 3), odd.pace("ab"), (odd - odd).states, (~odd).yes, (odd * 2)("ab", 1)],
            [((2, False), (2, False)), ((1, True), (0, False), (1, True)), (1, 2), ("s0", "s1"), ("e",), ((2, True),)])

    def test_what_is_listed_stands_in_the_class_itself(self):
        self.assertEqual(Loop.__module__, "wherebegun.loops")
        self.assertIs(vars(loops)["Loop"], Loop)
        for name in ("__init__", "__eq__", "__call__", "__add__", "__sub__", "__mul__", "__neg__", "__invert__", "made",
                     "answer", "state", "total", "pace", "changed"):
            self.assertIn(name, vars(Loop))
        for name in ("signs", "states", "rows", "turns", "yes", "row"):
            self.assertIsInstance(vars(Loop)[name], property)
        self.assertIsInstance(vars(Loop)["made"], classmethod)


class MakingTest(Case):
    def check_properties(self, loop):
        turns = (("n", "q", -1), ("p", "n", 5), ("q", "q", 0))
        self.assertEqual(loop.signs, "ab")
        self.assertEqual(loop.states, STATES)
        self.assertEqual(loop.rows, SHIFT_ROWS)
        self.assertEqual(loop.turns, turns)
        self.assertEqual(loop.yes, ("n", "q"))
        self.assertEqual(loop.row, ("ab", STATES, SHIFT_ROWS, turns, ("n", "q")))

    def test_parts_in_any_order(self):
        for rows in list(itertools.permutations(SHIFT_ROWS))[::37]:
            for turns in itertools.permutations(TURNS + (("q", "q", 0),)):
                for yes in (("n", "q"), ("q", "n")):
                    self.check_properties(Loop("ba", STATES, rows, turns, yes=yes))

    def test_by_position_and_by_name(self):
        self.check_properties(Loop("ab", STATES, SHIFT_ROWS, TURNS, yes=("n", "q")))
        self.check_properties(Loop(yes=("n", "q"), turns=TURNS, rows=SHIFT_ROWS, states=STATES, signs="ab"))
        with self.assertRaises(TypeError):
            Loop("ab", STATES, SHIFT_ROWS, TURNS, ("n", "q"))

    def test_what_is_left_out(self):
        stays = (("n", "n", 0), ("p", "p", 0), ("q", "q", 0))
        for loop in (SHIFTS, Loop("ab", STATES, SHIFT_ROWS, ()), Loop("ab", STATES, SHIFT_ROWS, stays, yes=())):
            self.assertEqual((loop.turns, loop.yes), (stays, ()))
            self.assertEqual(loop, SHIFTS)
        self.assertEqual(ANEW.turns, (("n", "n", 0), ("p", "n", 0), ("q", "n", 0)))

    def test_the_order_of_the_states_is_kept(self):
        for states in itertools.permutations(STATES):
            loop = Loop("ab", states, SHIFT_ROWS, TURNS, yes=("q", "n"))
            self.assertEqual(loop.states, states)
            self.assertEqual([row[:2] for row in loop.rows], [(state, sign) for state in states for sign in "ab"])
            self.assertEqual([turn[0] for turn in loop.turns], list(states))
            self.assertEqual(loop.yes, tuple(state for state in states if state in "nq"))

    def test_signs_in_any_order(self):
        for signs in ("a", "zb", "cab", "dbca"):
            rows = tuple(("p", sign, "p", at) for at, sign in enumerate(signs))
            loop = Loop(signs, ("p",), rows)
            self.assertEqual(loop.signs, "".join(sorted(signs)))
            self.assertEqual(loop.rows, tuple(sorted(rows)))

    def test_names_and_amounts_at_the_edges(self):
        for name in ("a", "z", "a0", "a9", "abcdefgh", "z1234567"):
            loop = Loop("a", (name,), ((name, "a", name, HUGE),), ((name, name, -HUGE),), yes=(name,))
            self.assertEqual(loop.row, ("a", (name,), ((name, "a", name, HUGE),), ((name, name, -HUGE),), (name,)))
        six = tuple("pqrstu")
        self.assertEqual(Loop("a", six, tuple((state, "a", "p", 0) for state in six)).states, six)

    def test_kinds_of_values(self):
        for loop in (SHIFTS, ODD, ANEW):
            self.assertEqual([type(part) for part in loop.row], [str, tuple, tuple, tuple, tuple])
            self.assertTrue(all(type(row) is tuple for row in loop.rows + loop.turns))

    def test_properties_are_not_assigned(self):
        loop = Loop("ab", STATES, SHIFT_ROWS, TURNS, yes=("n", "q"))
        for name in ("signs", "states", "rows", "turns", "yes", "row"):
            with self.assertRaises(AttributeError):
                setattr(loop, name, ())
        self.check_properties(loop)

    def test_an_object_is_true(self):
        self.assertIs(bool(SHIFTS), True)


class SignsAndStatesTest(Case):
    def test_what_are_no_signs(self):
        for value in NO_SIGNS:
            with self.subTest(value=value):
                self.refuses(InvalidSigns, value, lambda: Loop(value, STATES, SHIFT_ROWS))
                self.refuses(InvalidSigns, value, lambda: Loop(value, None, None, None, yes=None))

    def refuses_states(self, index, states):
        self.refuses(InvalidStates, index, lambda: Loop("ab", states, SHIFT_ROWS), "index")
        self.refuses(InvalidStates, index, lambda: Loop("ab", states, None, None, yes=None), "index")

    def test_what_is_no_tuple_of_states(self):
        for value in NO_TUPLES + ((),):
            with self.subTest(value=value):
                self.refuses_states(None, value)

    def test_the_first_state_that_is_not_right(self):
        for value in NO_NAMES:
            with self.subTest(value=value):
                self.refuses_states(0, (value,))
                self.refuses_states(1, ("n", value, "q", value))
                self.refuses_states(5, tuple("abcde") + (value,))
                self.refuses_states(5, tuple("abcde") + (value, "f"))
                self.refuses_states(0, (value,) * 7)

    def test_states_that_stand_twice(self):
        self.refuses_states(1, ("n", "n"))
        self.refuses_states(3, ("n", "p", "q", "p", "n"))
        self.refuses_states(5, ("a", "b", "c", "d", "e", "a", "f"))

    def test_more_than_six_states(self):
        self.refuses_states(6, tuple("abcdefg"))
        self.refuses_states(6, tuple("abcdefgh"))
        self.refuses_states(6, tuple("abcdef") + ("A",))
        self.refuses_states(6, tuple("abcdef") + ("a", None))
        self.refuses_states(6, tuple("abcdef") * 100)

    def refuses_yes(self, index, yes):
        self.refuses(InvalidStates, index, lambda: Loop("ab", STATES, SHIFT_ROWS, TURNS, yes=yes), "index")

    def test_yes_states(self):
        for value in NO_TUPLES:
            with self.subTest(value=value):
                self.refuses_yes(None, value)
        for value in NO_STATES_OF:
            with self.subTest(value=value):
                self.refuses_yes(0, (value,))
                self.refuses_yes(2, ("q", "n", value, "q"))
        self.refuses_yes(1, ("n", "n"))
        self.refuses_yes(3, ("n", "p", "q", "q", "n"))
        self.refuses_yes(3, ("n", "p", "q", "x"))


class RowsTest(Case):
    def refuses_rows(self, index, rows):
        self.refuses(InvalidRows, index, lambda: Loop("ab", STATES, rows), "index")
        self.refuses(InvalidRows, index, lambda: Loop("ab", STATES, rows, None, yes=None), "index")

    def test_what_is_no_tuple_of_rows(self):
        for value in NO_TUPLES + (list(SHIFT_ROWS),):
            with self.subTest(value=value):
                self.refuses_rows(None, value)

    def test_a_row_lacks(self):
        self.refuses_rows(None, ())
        for at in range(len(SHIFT_ROWS)):
            self.refuses_rows(None, without(SHIFT_ROWS, at))
            self.refuses_rows(None, SHIFT_ROWS[:at])

    def test_a_row_that_stands_twice(self):
        for at in range(len(SHIFT_ROWS)):
            self.refuses_rows(6, SHIFT_ROWS + (SHIFT_ROWS[at],))
            self.refuses_rows(at + 1, SHIFT_ROWS[:at + 1] + SHIFT_ROWS[at:])
        self.refuses_rows(2, (("n", "a", "p", 0), ("n", "b", "q", 0), ("n", "a", "q", 7)) + SHIFT_ROWS)
        self.refuses_rows(6, SHIFT_ROWS + (("x", "a", "p", 0),))

    def test_what_is_no_row(self):
        for value in NO_ROWS:
            with self.subTest(value=value):
                self.refuses_rows(0, (value,))
                self.refuses_rows(2, SHIFT_ROWS[:2] + (value,) + SHIFT_ROWS[2:])
                self.refuses_rows(5, SHIFT_ROWS[:5] + (value,))
                self.refuses_rows(6, SHIFT_ROWS + (value,))

    def test_each_part_of_a_row(self):
        for at, wrong in ((0, NO_STATES_OF), (1, NO_SIGNS_OF), (2, NO_STATES_OF), (3, NO_AMOUNTS)):
            for value in wrong:
                with self.subTest(at=at, value=value):
                    row = SHIFT_ROWS[3][:at] + (value,) + SHIFT_ROWS[3][at + 1:]
                    self.refuses_rows(3, SHIFT_ROWS[:3] + (row,) + SHIFT_ROWS[4:])


class TurnsTest(Case):
    def refuses_turns(self, index, turns):
        self.refuses(InvalidTurns, index, lambda: Loop("ab", STATES, SHIFT_ROWS, turns), "index")
        self.refuses(InvalidTurns, index, lambda: Loop("ab", STATES, SHIFT_ROWS, turns, yes=None), "index")

    def test_what_is_no_tuple_of_turns(self):
        for value in NO_TUPLES + (list(TURNS),):
            with self.subTest(value=value):
                self.refuses_turns(None, value)

    def test_turns_of_the_same_state(self):
        self.refuses_turns(1, (("n", "p", 0), ("n", "p", 0)))
        self.refuses_turns(2, (("n", "p", 0), ("p", "p", 0), ("n", "q", 1), ("x",)))
        self.refuses_turns(3, tuple((state, "n", 1) for state in STATES) + (("q", "n", 1),))

    def test_what_is_no_turn(self):
        for value in NO_TURNS:
            with self.subTest(value=value):
                self.refuses_turns(0, (value,))
                self.refuses_turns(1, TURNS[:1] + (value,) + TURNS[1:])
                self.refuses_turns(2, TURNS + (value, value))

    def test_each_part_of_a_turn(self):
        for at, wrong in ((0, NO_STATES_OF), (1, NO_STATES_OF), (2, NO_AMOUNTS)):
            for value in wrong:
                with self.subTest(at=at, value=value):
                    self.refuses_turns(1, (TURNS[0], TURNS[1][:at] + (value,) + TURNS[1][at + 1:]))


class RowTest(Case):
    def test_made_of_the_row(self):
        for loop in (SHIFTS, ANEW, ODD, ODD + ODD, Loop("ba", STATES[::-1], SHIFT_ROWS, TURNS, yes=("q", "n"))):
            made = Loop.made(loop.row)
            self.assertIs(type(made), Loop)
            self.assertEqual((made, made.row), (loop, loop.row))
            self.assertEqual(Loop.made(row=loop.row), loop)

    def test_made_of_a_row_with_one_part_that_is_not_just_so(self):
        row = Loop("ab", STATES, SHIFT_ROWS, TURNS, yes=("n", "q")).row
        signs, states, rows, turns, yes = row
        parts = (
            ("ba", "aa", "abc", "", None, ["a", "b"], ("a", "b")),
            (states[::-1], states[:2], states + ("x",), list(states), "npq", (), None),
            (rows[::-1], rows[:5], rows + rows[:1], list(rows), rows[:5] + (list(rows[5]),), (), None,
             rows[:5] + (rows[5][:3] + (False,),), rows[:5] + (rows[5][:3] + ("0",),)),
            (turns[::-1], turns[:2], turns[1:], (), None, list(turns), turns + turns[:1],
             turns[:2] + (("q", "q", False),)),
            (yes[::-1], ("n", "n"), ("x",), list(yes), None, "nq", ("n", None)))
        for at, told in enumerate(parts):
            for value in told:
                with self.subTest(at=at, value=value):
                    wrong = row[:at] + (value,) + row[at + 1:]
                    self.refuses(InvalidRow, wrong, lambda: Loop.made(wrong))

    def test_made_of_other_values(self):
        row = SHIFTS.row
        for value in NO_TUPLES + (row[:4], row + ((),), row[1:], list(row), (row,), (), (None,) * 5, (Equal(),) * 5):
            with self.subTest(value=value):
                self.refuses(InvalidRow, value, lambda: Loop.made(value))


class ComparingTest(Case):
    def test_each_single_change_counts(self):
        turns = tuple((state, state, 0) for state in STATES)
        loop = Loop("ab", STATES, SHIFT_ROWS, turns, yes=("n",))
        others = [
            Loop("ac", STATES, tuple((row[0], row[1].replace("b", "c"), *row[2:]) for row in SHIFT_ROWS), turns,
                 yes=("n",)),
            Loop("ab", ("p", "n", "q"), SHIFT_ROWS, turns, yes=("n",)),
            Loop("ab", ("n", "q", "p"), SHIFT_ROWS, turns, yes=("n",)),
            Loop("ab", STATES, SHIFT_ROWS, turns),
            Loop("ab", STATES, SHIFT_ROWS, turns, yes=("p",)),
            Loop("ab", STATES, SHIFT_ROWS, turns, yes=("n", "p"))]
        for at, (state, sign, _, amount) in enumerate(SHIFT_ROWS):
            for row in ((state, sign, "n", amount), SHIFT_ROWS[at][:3] + (amount + 1,), SHIFT_ROWS[at][:3] + (-1,)):
                others.append(Loop("ab", STATES, SHIFT_ROWS[:at] + (row,) + SHIFT_ROWS[at + 1:], turns, yes=("n",)))
        for at, state in enumerate(STATES):
            for turn in ((state, STATES[at - 1], 0), (state, state, 1)):
                others.append(Loop("ab", STATES, SHIFT_ROWS, turns[:at] + (turn,) + turns[at + 1:], yes=("n",)))
        for other in others:
            self.assertIs(loop == other, False)
            self.assertIs(loop != other, True)
            self.assertEqual(other, Loop.made(other.row))

    def test_equal_loops(self):
        one = Loop("ab", STATES, SHIFT_ROWS, TURNS, yes=("n", "q"))
        other = Loop("ba", STATES, SHIFT_ROWS[::-1], TURNS[::-1], yes=("q", "n"))
        self.assertIs(one == other, True)
        self.assertIs(one != other, False)

    def test_other_values(self):
        for value in (SHIFTS.row, list(SHIFTS.row), None, True, 0, "", "ab", Loop, EVERY, Ring("ab"), Equal()):
            with self.subTest(value=value):
                self.assertIs(SHIFTS == value, False)
                self.assertIs(SHIFTS != value, True)


if __name__ == "__main__":
    unittest.main()
