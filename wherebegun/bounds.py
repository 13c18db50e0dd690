"""Bounds as certificates have them: written for a certificate, and read without trust in what is there."""

from wherebegun.checks import is_integer, is_integer_from


def written_bounds(stands, sums):
    """The bounds that these sums are, one for each stand, or None where there is none."""
    return tuple([
        ((leads, first, last), total)
        for (leads, _, first, last), total in zip(stands.found, sums) if total is not None])


def numbered(stands):
    """The index of each stand, by what it is in a certificate."""
    return {(leads, first, last): index for index, (leads, _, first, last) in enumerate(stands.found)}


def read_bounds(value, numbers):
    """For the indexes of the stands that are there their integers, as a dict; None if this is of another form."""
    if not isinstance(value, tuple):
        return None
    found = {}
    for pair in value:
        if not isinstance(pair, tuple) or len(pair) != 2 or not _is_stand(pair[0]) or not is_integer(pair[1]):
            return None
        index = numbers.get(pair[0])
        if index is None or index in found:
            return None
        found[index] = pair[1]
    return found


def _is_stand(value):
    # Only what is made of integers and strings alone can be looked for: True would be found in the place of 1.
    if not isinstance(value, tuple) or len(value) != 3 or not isinstance(value[0], tuple):
        return False
    if not isinstance(value[1], str) or not isinstance(value[2], str):
        return False
    return all([is_integer(state) for state in value[0]])


def is_state_number(value, states):
    """Whether this is the index of one of so many states."""
    return is_integer_from(value, 0) and value < states


def are_above(bounds, walks, state, far):
    """Whether these bounds are above what the walks from these states add."""
    for stand, amount in walks.firsts(state, far):
        if stand in bounds and bounds[stand] < amount:
            return False
    for stand, further, amount in walks.edges(state, far):
        if further in bounds and (stand not in bounds or bounds[further] < bounds[stand] + amount):
            return False
    return True


def are_below(bounds, opposite, state, far):
    """Whether these bounds are below what the walks add whose opposite, of the factor -1, these are."""
    return are_above({stand: -least for stand, least in bounds.items()}, opposite, state, far)
