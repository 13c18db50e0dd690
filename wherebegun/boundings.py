"""Boundings, by which the differences of the counts of a round come to so much at most: written, read and checked."""

from wherebegun.bounds import are_above, is_state_number, read_bounds, written_bounds
from wherebegun.walks import Walks
from wherebegun.ways import ways


def written_bounding(stands, moments_of):
    """The bounding with the greatest sums as its bounds, for the rounds behind those moments of each way."""
    needed = set()
    for way in ways(stands, 2):
        for moment in moments_of(way):
            for pair in way.read_from(moment):
                needed.add(pair)
    walks = Walks(stands)
    return tuple([
        (state, far, written_bounds(stands, walks.greatest(state, far)))
        for state, far in sorted(needed) if state != far])


def read_bounding(value, numbers, states):
    """For each two of so many states that are there their bounds, as a dict; None if this is of another form."""
    if not isinstance(value, tuple):
        return None
    found = {}
    for triple in value:
        if not isinstance(triple, tuple) or len(triple) != 3:
            return None
        state, far, bounds = triple
        if not is_state_number(state, states) or not is_state_number(far, states) or state == far:
            return None
        told = read_bounds(bounds, numbers)
        if told is None or (state, far) in found:
            return None
        found[state, far] = told
    return found


def bounds_rounds(bounding, stands, laps, most):
    """Whether the bounds are right, and with them the counts of these rounds differ by so much at most."""
    walks = Walks(stands)
    if not all([are_above(bounds, walks, state, far) for (state, far), bounds in bounding.items()]):
        return False
    same = {index: 0 for index in range(len(stands.found))}
    # Ways with moments alike in number are asked for the same ones of them.
    asked = {}
    for way in ways(stands, 2):
        moments = way.moments()
        numbers = (way.moments_once(), len(moments))
        if numbers not in asked:
            asked[numbers] = _indexes(laps, numbers)
        for index in asked[numbers]:
            parts = [
                same if state == far else bounding.get((state, far), {})
                for state, far in way.read_from(moments[index])]
            if not _are_bounded(way.meets, parts, most - way.turn_difference(moments[index])):
                return False
    return True


def _indexes(laps, numbers):
    """Which moments are those ahead of these rounds, if from the first one of the two numbers on they come again."""
    once, number = numbers
    return sorted(set([lap - 1 if lap <= number else once + (lap - 1 - once) % (number - once) for lap in laps]))


def _are_bounded(meets, parts, most):
    bounds, other_bounds = parts
    for near, other in meets:
        if near not in bounds or other not in other_bounds or bounds[near] + other_bounds[other] > most:
            return False
    return True
