"""Loops: what goes round a word, round after round."""

from math import gcd

from wherebegun.changes import changed_row, is_change_of
from wherebegun.checks import is_integer, is_integer_from, is_signs, is_word
from wherebegun.courses import Course
from wherebegun.errors import (
    InvalidChanges, InvalidNumber, InvalidRound, InvalidRow, InvalidRows, InvalidSigns, InvalidStates, InvalidTurns,
    InvalidWord, NotALoop, OtherSigns, TooMany)
from wherebegun.limits import MOST_ROUNDS, MOST_STATES, MOST_TIMES
from wherebegun.parts import (
    check_rows, check_states, check_turns, check_yes, ordered_rows, ordered_turns, ordered_yes)
from wherebegun.sums import sum_row, times_row
from wherebegun.tables import Table


class Loop:
    """The loop with these signs, states, rows, turns and yes states."""

    def __init__(self, signs, states, rows, turns=(), *, yes=()):
        if not is_signs(signs):
            raise InvalidSigns(signs)
        check_states(states)
        check_rows(rows, signs, states)
        check_turns(turns, states)
        check_yes(yes, states)
        self._signs = "".join(sorted(signs))
        self._states = states
        self._rows = ordered_rows(rows, self._signs, states)
        self._turns = ordered_turns(turns, states)
        self._yes = ordered_yes(yes, states)
        self._table = Table(self.row)

    @property
    def signs(self):
        """The signs, ascending."""
        return self._signs

    @property
    def states(self):
        """The states, the one in which it begins first."""
        return self._states

    @property
    def rows(self):
        """All rows, in the order of the states, then of the signs."""
        return self._rows

    @property
    def turns(self):
        """The turns of all states, in their order."""
        return self._turns

    @property
    def yes(self):
        """The yes states, in the order of the states."""
        return self._yes

    @property
    def row(self):
        """The signs, states, rows, turns and yes states."""
        return (self._signs, self._states, self._rows, self._turns, self._yes)

    @classmethod
    def made(cls, row):
        """The loop with this row."""
        if not isinstance(row, tuple) or len(row) != 5:
            raise InvalidRow(row)
        signs, states, rows, turns, yes = row
        try:
            loop = cls(signs, states, rows, turns, yes=yes)
        except (InvalidSigns, InvalidStates, InvalidRows, InvalidTurns):
            raise InvalidRow(row) from None
        if loop.row != row:
            raise InvalidRow(row)
        return loop

    def __call__(self, text, rounds):
        """The answers of the first rounds, going round this word."""
        self._check_text(text)
        if not is_integer_from(rounds, 0) or rounds > MOST_ROUNDS:
            raise InvalidNumber(rounds)
        course, counts = self._gone(text)
        return tuple([self._answer_of(course, counts, lap) for lap in range(1, rounds + 1)])

    def answer(self, text, lap):
        """The answer of this round."""
        self._check_text(text)
        if not is_integer_from(lap, 1):
            raise InvalidRound(lap)
        course, counts = self._gone(text)
        return self._answer_of(course, counts, lap)

    def state(self, text, rounds):
        """The name of the state after so many rounds."""
        self._check_text(text)
        if not is_integer_from(rounds, 0):
            raise InvalidNumber(rounds)
        return self._states[self._gone(text)[0].behind(rounds)]

    def total(self, text, rounds):
        """The sum of the counts of the first rounds."""
        self._check_text(text)
        if not is_integer_from(rounds, 0):
            raise InvalidNumber(rounds)
        course, counts = self._gone(text)
        if rounds <= course.head:
            return sum(counts[:rounds])
        times, rest = divmod(rounds - course.head, course.again)
        return times * sum(counts[course.head:]) + sum(counts[:course.head + rest])

    def pace(self, text):
        """The mean of the counts of the rounds that come again, as (numerator, denominator)."""
        self._check_text(text)
        course, counts = self._gone(text)
        total = sum(counts[course.head:])
        common = gcd(total, course.again)
        return (total // common, course.again // common)

    def changed(self, change):
        """The loop after this change."""
        if not is_change_of(change, self._signs, self._states):
            raise InvalidChanges(None)
        return _loop_of(changed_row(self.row, change))

    def _check_text(self, text):
        if not is_word(text) or not all([sign in self._signs for sign in text]):
            raise InvalidWord(text)

    def _gone(self, text):
        """The course of the states ahead of the rounds, and the counts of these rounds."""
        rounds = [self._table.gone(text, start) for start in range(len(self._states))]
        course = Course([state for state, _ in rounds])
        return course, [rounds[state][1] for state in course.path]

    def _answer_of(self, course, counts, lap):
        return (counts[course.place(lap - 1)], self._table.says[course.behind(lap)])

    def __eq__(self, other):
        return isinstance(other, Loop) and self.row == other.row

    def __add__(self, other):
        return _sum_of(self, other, 1)

    def __sub__(self, other):
        return _sum_of(self, other, -1)

    def __mul__(self, other):
        if not is_integer(other) or abs(other) > MOST_TIMES:
            raise InvalidNumber(other)
        return _loop_of(times_row(self.row, other))

    def __neg__(self):
        return _loop_of(times_row(self.row, -1))

    def __invert__(self):
        yes = tuple([state for state in self._states if state not in self._yes])
        return Loop(self._signs, self._states, self._rows, self._turns, yes=yes)


def _loop_of(row):
    signs, states, rows, turns, yes = row
    return Loop(signs, states, rows, turns, yes=yes)


def _sum_of(one, other, factor):
    if not isinstance(other, Loop):
        raise NotALoop(other)
    if one.signs != other.signs:
        raise OtherSigns(other)
    row = sum_row(one._table, other._table, one.signs, factor)
    if len(row[1]) > MOST_STATES:
        raise TooMany(MOST_STATES)
    return _loop_of(row)
