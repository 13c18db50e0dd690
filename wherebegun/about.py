"""What a loop counts less what it counts when it goes round the other way."""

from wherebegun.asked import check_round
from wherebegun.backs import BackWalks
from wherebegun.needed import stands_back
from wherebegun.rounds import ANY_PLACE, least_and_greatest


def about(loop, kind, lap):
    """The least and the greatest difference of the counts of this round; None where there is no bound."""
    check_round(loop, kind, lap)
    stands = stands_back(loop, kind)
    return least_and_greatest(BackWalks(stands), BackWalks(stands, -1), ANY_PLACE, lap, lap)
