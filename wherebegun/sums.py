"""Two loops with the same signs gone along with at once, each of them a Table."""


def pairs_found(one, other, signs):
    """The pairs of their states that both come to, in the order in which they are found."""
    found = [(0, 0)]
    at = 0
    while at < len(found):
        first, second = found[at]
        onward = [(one.nexts[sign][first], other.nexts[sign][second]) for sign in signs]
        for pair in onward + [(one.turn_nexts[first], other.turn_nexts[second])]:
            if pair not in found:
                found.append(pair)
        at += 1
    return found


def sum_row(one, other, signs, factor):
    """The row of the sum, for the factor 1, or of the difference, for the factor -1."""
    pairs = pairs_found(one, other, signs)
    states = tuple([f"s{at}" for at in range(len(pairs))])
    name = {pair: state for pair, state in zip(pairs, states)}
    rows = [
        (name[first, second], sign, name[one.nexts[sign][first], other.nexts[sign][second]],
         one.amounts[sign][first] + factor * other.amounts[sign][second])
        for first, second in pairs for sign in signs]
    turns = [
        (name[first, second], name[one.turn_nexts[first], other.turn_nexts[second]],
         one.turn_amounts[first] + factor * other.turn_amounts[second])
        for first, second in pairs]
    yes = [name[first, second] for first, second in pairs if _is_yes(one.says[first], other.says[second], factor)]
    return (signs, states, tuple(rows), tuple(turns), tuple(yes))


def _is_yes(one_says, other_says, factor):
    if factor == 1:
        return one_says and other_says
    return one_says == other_says


def times_row(row, factor):
    """The row of the loop with so many times each amount."""
    signs, states, rows, turns, yes = row
    more_rows = [(state, sign, further, factor * amount) for state, sign, further, amount in rows]
    more_turns = [(state, further, factor * amount) for state, further, amount in turns]
    return (signs, states, tuple(more_rows), tuple(more_turns), yes)
