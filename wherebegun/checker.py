"""The checker: whether a certificate is one for a claim, whoever wrote them."""

from wherebegun.boundings import bounds_rounds, read_bounding
from wherebegun.bounds import numbered
from wherebegun.checks import is_word
from wherebegun.claims import claim_parts
from wherebegun.ends import end_round, read_ends
from wherebegun.errors import TooMany
from wherebegun.limits import MOST_WORD
from wherebegun.needed import bare_stands, bare_stands_once
from wherebegun.rings import Ring
from wherebegun.rounds import last_asked
from wherebegun.tables import Table
from wherebegun.ways import ways


def _differ(loop, kind, told, certificate):
    one, other, lap = told
    if certificate or len(one) != len(other) or other not in one + one or Ring(one) not in kind:
        return False
    return loop.answer(one, lap) != loop.answer(other, lap)


def _pumped(loop, kind, told, certificate):
    if len(certificate) != 4 or not _are_pieces(certificate):
        return False
    x, y, z, v = certificate
    words = [x + y * k + z for k in (1, 2)]
    if not all([len(u + v) <= MOST_WORD and Ring(u + v) in kind for u in words]):
        return False
    table = Table(loop.row)
    if x[-1] != y[-1] or table.leads(x) != table.leads(x + y):
        return False
    lap = told[0]
    first, second = [loop.answer(u + v, lap)[0] - loop.answer(v + u, lap)[0] for u in words]
    return first != second


def _are_pieces(values):
    x, y, z, v = values
    if not is_word(x) or not is_word(y) or not is_word(v):
        return False
    return is_word(z) or (isinstance(z, str) and z == "")


def _spread(loop, kind, told, certificate):
    lap, most = told
    stands = bare_stands(loop, kind)
    bounding = read_bounding(certificate, numbered(stands), len(loop.states))
    return bounding is not None and bounds_rounds(bounding, stands, [lap], most)


def _settled(loop, kind, told, certificate):
    number = told[0]
    stands = bare_stands(loop, kind)
    if len(certificate) != last_asked(stands, number) - number:
        return False
    numbers = numbered(stands)
    boundings = [read_bounding(value, numbers, len(loop.states)) for value in certificate]
    if None in boundings:
        return False
    # The same bounding may stand for many rounds: then it is gone through once only.
    for bounding, laps in _together(boundings, number + 1):
        if not bounds_rounds(bounding, stands, laps, 0):
            return False
    return all([way.says_alike(moment) for way in ways(stands, 2) for moment in way.moments_behind(number)])


def _together(boundings, first):
    """The boundings that are not alike, each with the numbers of its rounds."""
    groups = []
    for lap, bounding in enumerate(boundings, start=first):
        alike = [laps for other, laps in groups if other == bounding]
        if alike:
            alike[0].append(lap)
        else:
            groups.append((bounding, [lap]))
    return groups


def _within(loop, kind, told, certificate):
    lap, least, greatest = told
    stands = bare_stands_once(loop, kind)
    ends = read_ends(certificate, numbered(stands), len(loop.states))
    return ends is not None and end_round(ends, stands, lap, least, greatest)


CHECKS = {"differ": _differ, "pumped": _pumped, "spread": _spread, "settled": _settled, "within": _within}


def accepts(claim, certificate):
    """Whether this is a claim for the checker, and this a certificate for it."""
    parts = claim_parts(claim)
    if parts is None or not isinstance(certificate, tuple):
        return False
    what, loop, kind, told = parts
    check = CHECKS[what]
    try:
        return check(loop, kind, told, certificate)
    except TooMany:
        return False
