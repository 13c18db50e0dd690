"""Ends between which the counts of a round are, by bounds for each state: written, read and checked."""

from wherebegun.bounds import are_above, are_below, is_state_number, read_bounds, written_bounds
from wherebegun.walks import Walks
from wherebegun.ways import ways


def written_ends(stands, lap):
    """The triples (state, lows, highs) for the states ahead of this round, with the least and the greatest sums."""
    walks, opposite = Walks(stands), Walks(stands, -1)
    needed = set([way.moment(lap, lap)[0] for way in ways(stands, 1)])
    return tuple([
        (state, _lows(stands, opposite.greatest(state, 0)), written_bounds(stands, walks.greatest(state, 0)))
        for state in sorted(needed)])


def _lows(stands, sums):
    return written_bounds(stands, [None if total is None else -total for total in sums])


def read_ends(value, numbers, states):
    """For each of so many states that are there (lows, highs), as a dict; None if this is of another form."""
    found = {}
    for triple in value:
        if not isinstance(triple, tuple) or len(triple) != 3:
            return None
        state = triple[0]
        if not is_state_number(state, states) or state in found:
            return None
        lows, highs = read_bounds(triple[1], numbers), read_bounds(triple[2], numbers)
        if lows is None or highs is None:
            return None
        found[state] = (lows, highs)
    return found


def end_round(ends, stands, lap, least, greatest):
    """Whether the bounds are right, and with them the counts of this round are from the least to the greatest."""
    walks, opposite = Walks(stands), Walks(stands, -1)
    for state, (lows, highs) in ends.items():
        if not are_below(lows, opposite, state, 0) or not are_above(highs, walks, state, 0):
            return False
    for way in ways(stands, 1):
        moment = way.moment(lap, lap)
        lows, highs = ends.get(moment[0], ({}, {}))
        turn = way.turn_difference(moment)
        for met in way.meets:
            stand = met[0]
            if stand not in lows or stand not in highs:
                return False
            if lows[stand] + turn < least or highs[stand] + turn > greatest:
                return False
    return True
