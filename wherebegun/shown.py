"""Rings that show where it matters where a loop is begun, and which piece to repeat where there is no bound."""

from wherebegun.asked import check_round
from wherebegun.limits import MOST_WORD
from wherebegun.needed import stands_of
from wherebegun.rounds import OTHER_PLACE, greatest_difference, in_round, summed
from wherebegun.walks import Walks
from wherebegun.ways import ways
from wherebegun.words import fewest_unlike, signs_in_all

# More than the signs of two words that come to no stand twice: so one more in the difference outweighs all of them.
FINE = 1201


def widest(loop, kind, lap):
    """Any two turnings of one ring whose counts of this round differ by the spread; None if there is no bound."""
    check_round(loop, kind, lap)
    stands = stands_of(loop, kind)
    # Each sign takes a little away: so of the words with the greatest difference the shortest ones are found.
    walks = Walks(stands, FINE, 1)
    best = None
    for way in ways(stands, 2):
        moment = way.moment(lap, lap)
        asked = way.read_from(moment)
        lists = [walks.greatest(state, far) for state, far in asked]
        turns = FINE * way.turn_difference(moment)
        for met in way.meets:
            total = summed(lists, met)
            if total is None:
                return None
            if best is None or total + turns > best[0]:
                best = (total + turns, asked, met)
    _, asked, met = best
    return _both_turnings([walks.word(state, far, stand) for (state, far), stand in zip(asked, met)])


def _both_turnings(words):
    first, second = words
    return (first + second, second + first)


def shortest(loop, kind, lap):
    """Any two turnings of one ring, of as few signs as possible, whose answers in this round are not equal.

    None if it does not matter in this round where the loop is begun.
    """
    check_round(loop, kind, lap)
    stands = stands_of(loop, kind)
    walks = Walks(stands)
    best = None
    for way in ways(stands, 2):
        for words in fewest_unlike(way, walks, way.moment(lap, lap)):
            if best is None or signs_in_all(words) < signs_in_all(best):
                best = words
    return None if best is None else _both_turnings(best)


def pumped(loop, kind, lap):
    """None if the spread in this round has a bound; otherwise any words (x, y, z, v) that show that it has none.

    The counts of x + y * k + z + v and of v + x + y * k + z differ by more and more for greater and greater k.
    """
    check_round(loop, kind, lap)
    stands = stands_of(loop, kind)
    walks = Walks(stands)
    if in_round(walks, greatest_difference, OTHER_PLACE, lap, lap) is not None:
        return None
    # A piece of the second word that can be repeated is one of the first word from the other place, where it adds
    # less and less.
    found = _pumped_in(walks, lap)
    return _pumped_in(Walks(stands, -1), lap) if found is None else found


def _pumped_in(walks, lap):
    """The same, if in the first word of a ring there is a piece that adds more than 0; otherwise None."""
    for way in ways(walks.stands, 2):
        state, far = way.read_from(way.moment(lap, lap))[0]
        for near, other in way.meets:
            if walks.greatest(state, far)[near] is None:
                v = walks.few(state, far)[other][0][1]
                words = _pieces(walks, state, far, near, MOST_WORD - len(v))
                if words is not None:
                    return (*words, v)
    return None


def _pieces(walks, state, far, near, most):
    """Words (x, y, z) that make x + y * 2 + z of this stand, of at most so many signs, y adding not 0; or None."""
    for stand, total in enumerate(walks.greatest(state, far)):
        # Nothing that adds more than 0 leads from a stand that has a bound to itself.
        if total is None:
            onward = walks.onward(state, far, stand)
            if len(onward[stand]) == 2 and onward[near]:
                x = walks.few(state, far)[stand][0][1]
                y, z = onward[stand][1][1], onward[near][0][1]
                if len(x + y * 2 + z) <= most:
                    return (x, y, z)
    return None
