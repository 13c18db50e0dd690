"""How two loops go round the same ring, each begun at a place of it: all rings at once, by the maps of their words."""

from math import lcm

from wherebegun.courses import Course
from wherebegun.stands import joined


class Way:
    """All words that lead both loops alike.

    A ring consists of one word, if both are begun at the same place, or of two words. `leads_one` and `leads_other`
    are the maps of the whole ring, from the place of the one and from that of the other. `ahead` has for each of the
    words a pair: what leads the one, and what leads the other, from its place to this word. `meets` has the stands
    that the words may have, as tuples of their indexes.
    """

    def __init__(self, stands, leads, ahead, meets):
        self.one = stands.one
        self.other = stands.other
        self.leads_one = leads[0]
        self.leads_other = leads[1]
        self.ahead = ahead
        self.meets = meets
        self.course_one = Course(self.one.with_turn(self.leads_one))
        self.course_other = Course(self.other.with_turn(self.leads_other))

    def moment(self, lap, later):
        """The states ahead of the round `lap` of the one and of the round `later` of the other."""
        return (self.course_one.behind(lap - 1), self.course_other.behind(later - 1))

    def moments(self):
        """The states of both ahead of each round, until they come again."""
        number = self.moments_once() + lcm(self.course_one.again, self.course_other.again)
        return [self.moment(lap, lap) for lap in range(1, number + 1)]

    def moments_once(self):
        """How many of the moments come only once, ahead of those that come again and again."""
        return max(self.course_one.head, self.course_other.head)

    def moments_behind(self, rounds):
        """The states of both ahead of the rounds behind the first ones, until they come again."""
        return self.moments()[min(rounds, self.moments_once()):]

    def read_from(self, moment):
        """For each of the words the states from which the one and the other read it in the round behind this moment."""
        state, far = moment
        return [(leads_one[state], leads_other[far]) for leads_one, leads_other in self.ahead]

    def turn_difference(self, moment):
        """The amount of the turn of the one at the end of the round, less that of the other."""
        state, far = moment
        amount = self.one.turn_amounts[self.leads_one[state]]
        return amount - self.other.turn_amounts[self.leads_other[far]]

    def says_alike(self, moment):
        """Whether after the round both say yes or neither does."""
        state, far = moment
        further = self.one.turn_nexts[self.leads_one[state]]
        return self.one.says[further] == self.other.says[self.other.turn_nexts[self.leads_other[far]]]


def _way_of_two(stands, near, far, meets):
    """The way of the words with these maps, the one loop begun at the first word, the other at the second one."""
    stay = _stay(stands)
    if stands.back:
        # From the second place backward, the first word comes first, too.
        leads = (joined(near[0], far[0]), joined(near[1], far[1]))
        return Way(stands, leads, (stay, near), meets)
    leads = (joined(near[0], far[0]), joined(far[1], near[1]))
    return Way(stands, leads, ((stay[0], far[1]), (near[0], stay[1])), meets)


def _stay(stands):
    return (tuple(range(len(stands.one.says))), tuple(range(len(stands.other.says))))


def ways(stands, places):
    """All ways of loops begun at the same place, for 1, or at two different places, for 2."""
    for near, words in stands.groups.items():
        if places == 1:
            meets = [(word,) for word in words if stands.fit(word, word)]
            if meets:
                yield Way(stands, near, (_stay(stands),), meets)
            continue
        for far, more in stands.groups.items():
            meets = [(word, other) for word in words for other in more if stands.fit(word, other)]
            if meets:
                yield _way_of_two(stands, near, far, meets)
