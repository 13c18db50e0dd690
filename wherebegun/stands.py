"""The stands of the words of a kind, for two loops that read them, each of them a Table."""

from wherebegun.errors import TooMany
from wherebegun.limits import MOST_STANDS


class Stands:
    """All stands (map of the one, map of the other, first sign, last sign) and how they come of one another.

    For a single loop it stands at both places: then both maps are one, and the stands are as many as with this one.
    If it goes `back`, the other loop reads the words from behind.
    """

    def __init__(self, one, other, kind, back=False):
        self.one = one
        self.other = other
        self.back = back
        self.follows = {
            sign: tuple([after for after in kind.signs if sign + after in kind.pairs]) for sign in kind.signs}
        self.found = []
        self._indexes = {}
        # The stands of one sign, as pairs (sign, index of the stand).
        self.starts = [(sign, self._index((one.nexts[sign], other.nexts[sign], sign, sign))) for sign in kind.signs]
        # For each stand those that come of it by one sign more, likewise.
        self.steps = []
        while len(self.steps) < len(self.found):
            self.steps.append(self._steps_from(self.found[len(self.steps)]))
        self.groups = self._by_maps()

    def _index(self, stand):
        index = self._indexes.get(stand)
        if index is None:
            index = len(self.found)
            if index == MOST_STANDS:
                raise TooMany(MOST_STANDS)
            self._indexes[stand] = index
            self.found.append(stand)
        return index

    def _steps_from(self, stand):
        leads_one, leads_other, first, last = stand
        steps = []
        for sign in self.follows[last]:
            more_one = joined(leads_one, self.one.nexts[sign])
            more_other = self._more_other(leads_other, self.other.nexts[sign])
            steps.append((sign, self._index((more_one, more_other, first, sign))))
        return steps

    def _more_other(self, leads, more):
        # Read from behind, the sign that comes last is read first.
        return joined(more, leads) if self.back else joined(leads, more)

    def _by_maps(self):
        groups = {}
        for index, (leads_one, leads_other, _, _) in enumerate(self.found):
            groups.setdefault((leads_one, leads_other), []).append(index)
        return groups

    def fit(self, one, other):
        """Whether words of these two stands, by their indexes, make a ring; of the same one, whether its word does."""
        _, _, first, last = self.found[one]
        _, _, other_first, other_last = self.found[other]
        return other_first in self.follows[last] and first in self.follows[other_last]


def joined(leads, more):
    """The map of a word with another word behind it."""
    return tuple([more[state] for state in leads])
