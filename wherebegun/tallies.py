"""What words add in several rounds at once: how often each state reads them is tallied."""

from wherebegun.greatest import greatest_sums
from wherebegun.rounds import summed
from wherebegun.ways import ways


class Tallies:
    """The walks through the stands of one loop, each amount weighed by how often the state that it is from reads."""

    def __init__(self, stands):
        # Many stands have the same amounts, in the order of the states: these are numbered and weighed once only.
        self._numbers = {}
        self._known = {}
        self._amounts = stands.one.amounts
        self._stands = len(stands.found)
        stay = tuple(range(len(stands.one.says)))
        self._firsts = [(stand, self._number(sign, stay)) for sign, stand in stands.starts]
        self._edges = [
            (index, further, self._number(sign, stands.found[index][0]))
            for index, steps in enumerate(stands.steps) for sign, further in steps]

    def _number(self, sign, leads):
        amounts = tuple([self._amounts[sign][state] for state in leads])
        return self._numbers.setdefault(amounts, len(self._numbers))

    def greatest(self, tally):
        """For each stand the greatest sum of its words; None if there is no bound."""
        if tally not in self._known:
            worth = [sum([times * amount for times, amount in zip(tally, amounts)]) for amounts in self._numbers]
            firsts = [(stand, worth[number]) for stand, number in self._firsts]
            edges = [(stand, further, worth[number]) for stand, further, number in self._edges]
            self._known[tally] = greatest_sums(self._stands, firsts, edges)[0]
        return self._known[tally]


def greatest_tally(stands, tallied):
    """The greatest difference of all counts that are tallied from two places of a ring; None if there is no bound.

    `tallied` gives for a course the states whose rounds are counted, as pairs (state, how often).
    """
    tallies = Tallies(stands)
    greatest = None
    for way in ways(stands, 2):
        value = _greatest_of(way, tallies, tallied(way.course_one), tallied(way.course_other))
        if value is None:
            return None
        greatest = value if greatest is None else max(greatest, value)
    return greatest


def _greatest_of(way, tallies, rounds, far_rounds):
    lists = []
    for leads_one, leads_other in way.ahead:
        read = [(leads_one[state], times) for state, times in rounds]
        read_far = [(leads_other[state], -times) for state, times in far_rounds]
        lists.append(tallies.greatest(_tally(read + read_far, len(leads_one))))
    sums = [summed(lists, met) for met in way.meets]
    if None in sums:
        return None
    turns = sum([times * way.one.turn_amounts[way.leads_one[state]] for state, times in rounds])
    far_turns = sum([times * way.other.turn_amounts[way.leads_other[state]] for state, times in far_rounds])
    return max(sums) + turns - far_turns


def _tally(pairs, number):
    """For each of so many states how often it reads, in all."""
    tally = [0 for _ in range(number)]
    for state, times in pairs:
        tally[state] += times
    return tuple(tally)
