"""Which changes make a loop settle."""

from wherebegun.asked import check_asked
from wherebegun.changes import is_change_of, what_changes
from wherebegun.checks import first_wrong, is_warm
from wherebegun.errors import InvalidChanges, InvalidNumber
from wherebegun.limits import MOST_CHANGES
from wherebegun.needed import stands_of
from wherebegun.rounds import matters_behind


def mends(loop, kind, changes, rounds):
    """The least sets of the changes that settle the loop within so many rounds, as tuples of their indexes."""
    check_asked(loop, kind)
    _check_changes(changes, loop)
    if not is_warm(rounds):
        raise InvalidNumber(rounds)
    # All sets come first, since each of them may need too many stands.
    stands = [(chosen, stands_of(_changed(loop, changes, chosen), kind)) for chosen in _sets(len(changes))]
    least = []
    for chosen, needed in stands:
        if not any([_is_part(part, chosen) for part in least]) and not matters_behind(needed, rounds):
            least.append(chosen)
    return tuple(least)


def _check_changes(changes, loop):
    if not isinstance(changes, tuple):
        raise InvalidChanges(None)
    first = changes[:MOST_CHANGES]
    right = [is_change_of(change, loop.signs, loop.states) for change in first]
    wrong = first_wrong([what_changes(change) if fine else None for change, fine in zip(first, right)], right)
    if wrong is not None:
        raise InvalidChanges(wrong)
    if len(changes) > MOST_CHANGES:
        raise InvalidChanges(MOST_CHANGES)


def _sets(number):
    """All sets of the indexes below the number, as ascending tuples: fewer ones first, equally many ascending."""
    found = [()]
    for index in range(number):
        found = found + [chosen + (index,) for chosen in found]
    return sorted(found, key=lambda chosen: (len(chosen), chosen))


def _changed(loop, changes, chosen):
    for index in chosen:
        loop = loop.changed(changes[index])
    return loop


def _is_part(part, chosen):
    return all([index in chosen for index in part])
