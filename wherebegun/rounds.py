"""What is greatest in a round, and in all rounds, over all rings and places."""

from math import lcm

from wherebegun.walks import Walks
from wherebegun.ways import ways

SAME_PLACE = (1,)
OTHER_PLACE = (2,)
ANY_PLACE = (1, 2)


def summed(lists, met):
    """The sum of what each list has for its stand; None if one of them has None."""
    found = [values[stand] for values, stand in zip(lists, met)]
    return None if None in found else sum(found)


def greatest_difference(way, walks, moment):
    """The greatest difference of the counts of both in the round behind this moment; None if there is no bound."""
    lists = [walks.greatest(state, far) for state, far in way.read_from(moment)]
    sums = [summed(lists, met) for met in way.meets]
    if None in sums:
        return None
    return max(sums) + walks.factor * way.turn_difference(moment)


def are_unlike(way, walks, moment):
    """1 if there are words with which the answers of both in the round behind this moment differ, otherwise 0."""
    if not way.says_alike(moment):
        return 1
    lists = [walks.single(state, far) for state, far in way.read_from(moment)]
    alike = -walks.factor * way.turn_difference(moment)
    return 0 if all([summed(lists, met) == alike for met in way.meets]) else 1


def _greater(one, other):
    """The greater ones of two lists of values, None being above all numbers."""
    return [None if None in pair else max(pair) for pair in zip(one, other)]


def in_round(walks, weigh, both_places, lap, later):
    """The greatest of what is weighed of all ways, ahead of these rounds; None if there is no bound.

    `both_places` has 1 if the loops are begun at the same place, 2 if at different ones, or both numbers.
    """
    stands = walks.stands
    greatest = []
    for places in both_places:
        for way in ways(stands, places):
            value = weigh(way, walks, way.moment(lap, later))
            if value is None:
                return None
            greatest.append(value)
    return max(greatest)


def least_and_greatest(walks, opposite, both_places, lap, later):
    """The least and the greatest difference of the counts of these rounds; `opposite` has the factor -1."""
    greatest = in_round(walks, greatest_difference, both_places, lap, later)
    least = in_round(opposite, greatest_difference, both_places, lap, later)
    return (None if least is None else -least, greatest)


def matters_behind(stands, rounds):
    """Whether it matters in a round behind so many first ones where the loop is begun."""
    walks = Walks(stands)
    for way in ways(stands, 2):
        if 1 in [are_unlike(way, walks, moment) for moment in way.moments_behind(rounds)]:
            return True
    return False


def rounds_once(stands):
    """The number of the first rounds that may be other than those that come again: one less than the states."""
    return max(len(stands.one.says), len(stands.other.says)) - 1


def rounds_again(stands):
    """A number of rounds after which all comes again: the least common multiple of the numbers up to the states."""
    again = 1
    for number in range(1, rounds_once(stands) + 2):
        again = lcm(again, number)
    return again


def last_asked(stands, rounds):
    """The last one of the rounds behind so many first ones that tell of all of them."""
    return max(rounds, rounds_once(stands)) + rounds_again(stands)


def in_all_rounds(walks, weigh, both_places):
    """A list of the same for the rounds from 1 on, up to the last one ahead of which nothing has come again."""
    # Ways with moments alike in number are put together at once: there are many ways, but few such numbers.
    stands = walks.stands
    rounds = rounds_once(stands) + rounds_again(stands)
    alike = {}
    for places in both_places:
        for way in ways(stands, places):
            values = [weigh(way, walks, moment) for moment in way.moments()]
            numbers = (way.moments_once(), len(values))
            alike[numbers] = _greater(alike.get(numbers, values), values)
    greatest = None
    for numbers, values in alike.items():
        told = _told_on(values, numbers[0], rounds)
        greatest = told if greatest is None else _greater(greatest, told)
    return greatest


def _told_on(values, once, rounds):
    """So many values, those from the index `once` on coming again and again."""
    again = values[once:]
    return values[:once] + [again[at % len(again)] for at in range(rounds - once)]
