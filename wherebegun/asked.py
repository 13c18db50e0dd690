"""The arguments that many functions have, and the errors that they raise if these are not right."""

from wherebegun.checks import is_integer_from
from wherebegun.errors import InvalidRound, NotAKind, NotALoop
from wherebegun.kinds import Kind
from wherebegun.loops import Loop


def check_loop(loop):
    """Raise NotALoop if this is no Loop."""
    if not isinstance(loop, Loop):
        raise NotALoop(loop)


def check_kind(kind):
    """Raise NotAKind if this is no Kind."""
    if not isinstance(kind, Kind):
        raise NotAKind(kind)


def check_lap(lap):
    """Raise InvalidRound if this is no number of a round."""
    if not is_integer_from(lap, 1):
        raise InvalidRound(lap)


def check_asked(loop, kind):
    """Raise what is to be raised for a loop and a kind, except what comes last."""
    check_loop(loop)
    check_kind(kind)


def check_round(loop, kind, lap):
    """Raise what is to be raised for a loop, a kind and a round, except what comes last."""
    check_asked(loop, kind)
    check_lap(lap)
