"""Whether it matters where a loop is begun, and whether two loops answer alike: for all rings of a kind at once."""

from wherebegun.asked import check_asked, check_kind, check_lap, check_loop, check_round
from wherebegun.needed import stands_of, stands_of_both, stands_once
from wherebegun.rounds import (
    ANY_PLACE, OTHER_PLACE, SAME_PLACE, are_unlike, greatest_difference, in_all_rounds, in_round, least_and_greatest,
    rounds_once)
from wherebegun.walks import Walks
from wherebegun.ways import ways
from wherebegun.words import fewest_unlike


def _check_both(one, other, kind):
    check_loop(one)
    check_loop(other)
    check_kind(kind)


def _range(stands, both_places, lap, later):
    """The least and the greatest difference of the counts of these rounds."""
    return least_and_greatest(Walks(stands), Walks(stands, -1), both_places, lap, later)


def count_range(loop, kind, lap):
    """The least and the greatest count of this round; None where there is no bound."""
    check_round(loop, kind, lap)
    return _range(stands_once(loop, kind), SAME_PLACE, lap, lap)


def spread(loop, kind, lap):
    """The greatest difference of the counts of this round from two places of a ring; None if there is no bound."""
    check_round(loop, kind, lap)
    return in_round(Walks(stands_of(loop, kind)), greatest_difference, OTHER_PLACE, lap, lap)


def disagrees(loop, kind, lap):
    """Whether for some ring and two of its places the loop says yes after this round from one of them alone."""
    check_round(loop, kind, lap)
    stands = stands_of(loop, kind)
    return any([not way.says_alike(way.moment(lap, lap)) for way in ways(stands, 2)])


def matters(loop, kind, lap):
    """Whether it matters in this round where the loop is begun."""
    check_round(loop, kind, lap)
    return in_round(Walks(stands_of(loop, kind)), are_unlike, OTHER_PLACE, lap, lap) == 1


def spreads(loop, kind):
    """The spreads in all rounds: those of the first ones, and those that come again and again."""
    check_asked(loop, kind)
    stands = stands_of(loop, kind)
    values = in_all_rounds(Walks(stands), greatest_difference, OTHER_PLACE)
    once = rounds_once(stands)
    return _shortest(values[:once], values[once:])


def _shortest(first, again):
    lengths = [length for length in range(1, len(again) + 1) if len(again) % length == 0]
    least = min([length for length in lengths if again == again[:length] * (len(again) // length)])
    again = again[:least]
    while first and first[-1] == again[-1]:
        first = first[:-1]
        again = again[-1:] + again[:-1]
    return (tuple(first), tuple(again))


def settles(loop, kind):
    """The least number of rounds after which it does not matter any more; None if there is none."""
    check_asked(loop, kind)
    stands = stands_of(loop, kind)
    values = in_all_rounds(Walks(stands), are_unlike, OTHER_PLACE)
    once = rounds_once(stands)
    if 1 in values[once:]:
        return None
    return max([0] + [lap for lap in range(1, once + 1) if values[lap - 1] == 1])


def same_place(one, other, kind, lap, *, later=None):
    """The least and the greatest difference of the counts of both, begun at the same place; None for no bound."""
    return _range_of_both(one, other, kind, lap, later, SAME_PLACE)


def any_place(one, other, kind, lap, *, later=None):
    """The least and the greatest difference of the counts of both, each begun anywhere; None for no bound."""
    return _range_of_both(one, other, kind, lap, later, ANY_PLACE)


def _range_of_both(one, other, kind, lap, later, both_places):
    _check_both(one, other, kind)
    check_lap(lap)
    if later is not None:
        check_lap(later)
    stands = stands_of_both(one, other, kind)
    return _range(stands, both_places, lap, lap if later is None else later)


def alike(one, other, kind):
    """Whether the answers of both, begun at the same place, are equal in all rounds."""
    return unlike(one, other, kind) is None


def alike_anywhere(one, other, kind):
    """Whether the answers of both, each begun anywhere, are equal in all rounds."""
    _check_both(one, other, kind)
    stands = stands_of_both(one, other, kind)
    return 1 not in in_all_rounds(Walks(stands), are_unlike, ANY_PLACE)


def unlike(one, other, kind):
    """Any pair (text, lap) of a turning and a round in which the answers of both differ; None if they are alike."""
    _check_both(one, other, kind)
    stands = stands_of_both(one, other, kind)
    walks = Walks(stands)
    found = []
    for way in ways(stands, 1):
        for index, moment in enumerate(way.moments()):
            found.extend([(words[0], index + 1) for words in fewest_unlike(way, walks, moment)])
    return min(found, key=_length_of_text) if found else None


def _length_of_text(pair):
    return len(pair[0])
