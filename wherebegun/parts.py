"""The parts of a loop: whether they are right, and how they are put in their one order."""

from wherebegun.checks import first_wrong, is_integer, is_name, is_sign_of
from wherebegun.errors import InvalidRows, InvalidStates, InvalidTurns
from wherebegun.limits import MOST_STATES


def is_state_of(value, states):
    """Whether this is one of these states."""
    return isinstance(value, str) and value in states


def is_row_of(value, signs, states):
    """Whether this is a tuple (state, sign, next state, amount)."""
    if not isinstance(value, tuple) or len(value) != 4:
        return False
    state, sign, further, amount = value
    if not is_state_of(state, states) or not is_sign_of(sign, signs):
        return False
    return is_state_of(further, states) and is_integer(amount)


def is_turn_of(value, states):
    """Whether this is a tuple (state, next state, amount)."""
    if not isinstance(value, tuple) or len(value) != 3:
        return False
    state, further, amount = value
    return is_state_of(state, states) and is_state_of(further, states) and is_integer(amount)


def check_states(states):
    """Raise InvalidStates if this is no tuple of one to six different names."""
    if not isinstance(states, tuple) or len(states) == 0:
        raise InvalidStates(None)
    first = states[:MOST_STATES]
    wrong = first_wrong(first, [is_name(state) for state in first])
    if wrong is not None:
        raise InvalidStates(wrong)
    if len(states) > MOST_STATES:
        raise InvalidStates(MOST_STATES)


def check_rows(rows, signs, states):
    """Raise InvalidRows if this is no tuple of one row for each state and sign."""
    if not isinstance(rows, tuple):
        raise InvalidRows(None)
    right = [is_row_of(row, signs, states) for row in rows]
    wrong = first_wrong([row[:2] if fine else None for row, fine in zip(rows, right)], right)
    if wrong is not None:
        raise InvalidRows(wrong)
    if len(rows) < len(signs) * len(states):
        raise InvalidRows(None)


def check_turns(turns, states):
    """Raise InvalidTurns if this is no tuple of turns of different states."""
    if not isinstance(turns, tuple):
        raise InvalidTurns(None)
    right = [is_turn_of(turn, states) for turn in turns]
    wrong = first_wrong([turn[0] if fine else None for turn, fine in zip(turns, right)], right)
    if wrong is not None:
        raise InvalidTurns(wrong)


def check_yes(yes, states):
    """Raise InvalidStates if this is no tuple of different ones of the states."""
    if not isinstance(yes, tuple):
        raise InvalidStates(None)
    wrong = first_wrong(yes, [is_state_of(state, states) for state in yes])
    if wrong is not None:
        raise InvalidStates(wrong)


def ordered_rows(rows, signs, states):
    """The rows in the order of the states, then of the signs."""
    found = {row[:2]: row for row in rows}
    return tuple([found[state, sign] for state in states for sign in signs])


def ordered_turns(turns, states):
    """The turns of all states in their order; a state without one stays."""
    found = {turn[0]: turn for turn in turns}
    return tuple([found.get(state, (state, state, 0)) for state in states])


def ordered_yes(yes, states):
    """The yes states in the order of the states."""
    return tuple([state for state in states if state in yes])
