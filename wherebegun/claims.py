"""Claims for the checker: what they are, whether or not they are true."""

from wherebegun.checks import is_integer, is_integer_from, is_near_lap, is_warm, is_word
from wherebegun.errors import InvalidRow
from wherebegun.kinds import Kind
from wherebegun.loops import Loop
from wherebegun.needed import has_signs_of


def claim_parts(claim):
    """What is claimed, the loop, the kind and the rest, as a tuple of four; None if this is no claim."""
    if not isinstance(claim, tuple) or len(claim) < 4 or not isinstance(claim[0], str):
        return None
    what, told = claim[0], claim[3:]
    if not _is_rest(what, told):
        return None
    try:
        loop, kind = Loop.made(claim[1]), Kind.made(claim[2])
    except InvalidRow:
        return None
    return (what, loop, kind, told) if has_signs_of(loop, kind) else None


def _is_rest(what, told):
    if what == "differ":
        return len(told) == 3 and is_word(told[0]) and is_word(told[1]) and is_near_lap(told[2])
    if what == "pumped":
        return len(told) == 1 and is_near_lap(told[0])
    if what == "spread":
        return len(told) == 2 and is_near_lap(told[0]) and is_integer_from(told[1], 0)
    if what == "settled":
        return len(told) == 1 and is_warm(told[0])
    return what == "within" and len(told) == 3 and is_near_lap(told[0]) and is_integer(told[1]) and is_integer(told[2])
