"""By how much totals and paces differ from two places of a ring, over all rings of a kind."""

from math import gcd

from wherebegun.asked import check_asked
from wherebegun.checks import is_integer_from
from wherebegun.errors import InvalidNumber
from wherebegun.limits import MOST_TOTAL
from wherebegun.needed import stands_of
from wherebegun.rounds import rounds_again
from wherebegun.tallies import greatest_tally


def total_spread(loop, kind, rounds):
    """The greatest difference of the totals of the first rounds; None if there is no bound."""
    check_asked(loop, kind)
    if not is_integer_from(rounds, 1) or rounds > MOST_TOTAL:
        raise InvalidNumber(rounds)
    return greatest_tally(stands_of(loop, kind), lambda course: course.visits(rounds))


def pace_spread(loop, kind):
    """The greatest difference of the paces, as (numerator, denominator); None if there is no bound."""
    check_asked(loop, kind)
    stands = stands_of(loop, kind)
    # In so many parts each pace is a number of whole ones, since so many rounds hold each period some times.
    parts = rounds_again(stands)
    greatest = greatest_tally(stands, lambda course: course.shares(parts))
    if greatest is None:
        return None
    common = gcd(greatest, parts)
    return (greatest // common, parts // common)
