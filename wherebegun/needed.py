"""The stands that a question needs, or the errors that each function with a kind raises last."""

from wherebegun.errors import NoRing, OtherSigns
from wherebegun.stands import Stands
from wherebegun.tables import Table, still_table


def has_signs_of(loop, kind):
    """Whether the loop has all signs of the kind."""
    return all([sign in loop.signs for sign in kind.signs])


def _check_rings(loops, kind):
    """Raise OtherSigns if one of the loops lacks a sign of the kind, NoRing if the kind has no ring."""
    for loop in loops:
        if not has_signs_of(loop, kind):
            raise OtherSigns(kind)
    if not kind:
        raise NoRing()


def stands_of(loop, kind):
    """The stands for a loop begun at two places."""
    _check_rings((loop,), kind)
    return bare_stands(loop, kind)


def bare_stands(loop, kind):
    """The same, whether or not the kind has a ring."""
    table = Table(loop.row)
    return Stands(table, table, kind)


def stands_of_both(one, other, kind):
    """The stands for two loops, each begun at a place."""
    _check_rings((one, other), kind)
    return Stands(Table(one.row), Table(other.row), kind)


def stands_once(loop, kind):
    """The stands for a loop begun at one place: its amounts are compared with those of one that adds nothing."""
    _check_rings((loop,), kind)
    return bare_stands_once(loop, kind)


def bare_stands_once(loop, kind):
    """The same, whether or not the kind has a ring."""
    return Stands(Table(loop.row), still_table(kind.signs), kind)


def stands_back(loop, kind):
    """The stands for a loop that goes round the one way and the other way."""
    _check_rings((loop,), kind)
    table = Table(loop.row)
    return Stands(table, table, kind, back=True)
