"""Changes of a loop: another row, another turn or another beginning."""

from wherebegun.parts import is_row_of, is_state_of, is_turn_of


def is_change_of(value, signs, states):
    """Whether this is a change of a loop with these signs and states."""
    if not isinstance(value, tuple) or len(value) < 2 or not isinstance(value[0], str):
        return False
    what, told = value[0], value[1:]
    if what == "row":
        return is_row_of(told, signs, states)
    if what == "turn":
        return is_turn_of(told, states)
    return what == "begin" and len(told) == 1 and is_state_of(told[0], states)


def changed_row(row, change):
    """The row of a loop after this change, its parts not yet in their one order."""
    signs, states, rows, turns, yes = row
    what, told = change[0], change[1:]
    if what == "row":
        rows = tuple([told if other[:2] == told[:2] else other for other in rows])
    elif what == "turn":
        turns = tuple([told if other[0] == told[0] else other for other in turns])
    else:
        states = told + tuple([state for state in states if state != told[0]])
    return (signs, states, rows, turns, yes)


def what_changes(change):
    """What this change puts another one in the place of: no two changes of a set have the same."""
    if change[0] == "row":
        return change[:3]
    return change[:2] if change[0] == "turn" else change[:1]
