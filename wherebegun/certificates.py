"""Claims with certificates that the checker accepts."""

from wherebegun.asked import check_asked
from wherebegun.begun import count_range, spread
from wherebegun.boundings import written_bounding
from wherebegun.checks import is_near_lap, is_warm
from wherebegun.ends import written_ends
from wherebegun.errors import InvalidNumber, InvalidRound
from wherebegun.limits import MOST_WORD
from wherebegun.needed import stands_of, stands_once
from wherebegun.rounds import last_asked, matters_behind
from wherebegun.shown import pumped
from wherebegun.walks import Walks
from wherebegun.ways import ways
from wherebegun.words import fewest_unlike, signs_in_all


def _check_near(loop, kind, lap):
    check_asked(loop, kind)
    if not is_near_lap(lap):
        raise InvalidRound(lap)


def certify_spread(loop, kind, lap):
    """The claim with the spread in this round, or that it has no bound."""
    _check_near(loop, kind, lap)
    most = spread(loop, kind, lap)
    if most is None:
        return (("pumped", loop.row, kind.row, lap), pumped(loop, kind, lap))
    bounding = written_bounding(stands_of(loop, kind), lambda way: [way.moment(lap, lap)])
    return (("spread", loop.row, kind.row, lap, most), bounding)


def certify_settled(loop, kind, number):
    """The claim that it is settled after so many rounds, or else that two answers differ in a round behind these."""
    check_asked(loop, kind)
    if not is_warm(number):
        raise InvalidNumber(number)
    stands = stands_of(loop, kind)
    if matters_behind(stands, number):
        found = _differing(stands, number)
        return (("differ", loop.row, kind.row, *found), ())
    # One bounding has what is needed for all of the rounds.
    bounding = written_bounding(stands, lambda way: way.moments_behind(number))
    return (("settled", loop.row, kind.row, number), (bounding,) * (last_asked(stands, number) - number))


def _differing(stands, number):
    """Two turnings of one ring and a round behind so many in which the answers differ."""
    walks = Walks(stands)
    for way in ways(stands, 2):
        for at in range(len(way.moments_behind(number))):
            lap = number + 1 + at
            found = fewest_unlike(way, walks, way.moment(lap, lap))
            if found:
                first, other = min(found, key=signs_in_all)
                if len(first + other) <= MOST_WORD:
                    return (first + other, other + first, lap)
    return None


def certify_range(loop, kind, lap):
    """The claim with the least and the greatest count of this round; None if one of them has no bound."""
    _check_near(loop, kind, lap)
    least, greatest = count_range(loop, kind, lap)
    if least is None or greatest is None:
        return None
    ends = written_ends(stands_once(loop, kind), lap)
    return (("within", loop.row, kind.row, lap, least, greatest), ends)
