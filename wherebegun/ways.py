"""How two loops go round the same ring, each begun at a place of it: all rings at once, by the maps of their words."""

from math import lcm

from wherebegun.courses import Course


class Way:
    """All words that lead both loops alike.

    A ring consists of one word, if both are begun at the same place, or of two words. `leads_one` and `leads_other`
    are the maps of the whole ring, from the place of the one and from that of the other. `ahead` has for each of the
    words a pair: what leads the one, and what leads the other, from its place to this word. `meets` has the stands
    that the words may have, as tuples of their indexes.
    """

    def __init__(self, stands, leads, ahead, meets):
        self.one = stands.one
        self.other = stands.other
        self.leads_one = leads[0]
        self.leads_other = leads[1]
        self.ahead = ahead
        self.meets = meets
        self._course_one = Course(self.one.with_turn(self.leads_one))
        self._course_other = Course(self.other.with_turn(self.leads_other))

    def moment(self, lap, later):
        """The states ahead of the round `lap` of the one and of the round `later` of the other."""
        return (self._course_one.behind(lap - 1), self._course_other.behind(later - 1))

    def moments(self):
        """The states of both ahead of each round, until they come again."""
        number = self.moments_once() + lcm(self._course_one.again, self._course_other.again)
        return [self.moment(lap, lap) for lap in range(1, number + 1)]

    def moments_once(self):
        """How many of the moments come only once, ahead of those that come again and again."""
        return max(self._course_one.head, self._course_other.head)

    def turn_difference(self, moment):
        """The amount of the turn of the one at the end of the round, less that of the other."""
        state, far = moment
        amount = self.one.turn_amounts[self.leads_one[state]]
        return amount - self.other.turn_amounts[self.leads_other[far]]

    def says_alike(self, moment):
        """Whether after the round both say yes or neither does."""
        state, far = moment
        behind = self.one.turn_nexts[self.leads_one[state]]
        return self.one.says[behind] == self.other.says[self.other.turn_nexts[self.leads_other[far]]]


def _behind(leads, more):
    """The map of a word with another word behind it."""
    return tuple([more[state] for state in leads])


def ways(stands, places):
    """All ways of loops begun at the same place, for 1, or at two different places, for 2."""
    stay = (tuple(range(len(stands.one.says))), tuple(range(len(stands.other.says))))
    for near, words in stands.groups.items():
        if places == 1:
            meets = [(word,) for word in words if stands.fit(word, word)]
            if meets:
                yield Way(stands, near, (stay,), meets)
            continue
        for far, more in stands.groups.items():
            meets = [(word, other) for word in words for other in more if stands.fit(word, other)]
            if meets:
                leads = (_behind(near[0], far[0]), _behind(far[1], near[1]))
                yield Way(stands, leads, ((stay[0], far[1]), (near[0], stay[1])), meets)
