"""The arguments that many functions have, and the errors that they raise if these are not right."""

from wherebegun.checks import is_integer_from
from wherebegun.errors import InvalidRound, NoRing, NotAKind, NotALoop, OtherSigns
from wherebegun.kinds import Kind
from wherebegun.loops import Loop


def check_loop(loop):
    """Raise NotALoop if this is no Loop."""
    if not isinstance(loop, Loop):
        raise NotALoop(loop)


def check_kind(kind):
    """Raise NotAKind if this is no Kind."""
    if not isinstance(kind, Kind):
        raise NotAKind(kind)


def check_lap(lap):
    """Raise InvalidRound if this is no number of a round."""
    if not is_integer_from(lap, 1):
        raise InvalidRound(lap)


def check_rings(loops, kind):
    """Raise OtherSigns if one of the loops lacks a sign of the kind, NoRing if the kind has no ring."""
    for loop in loops:
        if not all([sign in loop.signs for sign in kind.signs]):
            raise OtherSigns(kind)
    if not kind:
        raise NoRing()
