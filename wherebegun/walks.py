"""What the words of each stand add: the sum of their amounts from one state of the one loop less that from one state
of the other, each word being a walk through the stands."""


def _circling(came):
    """One stand of each circle in which each stand came of the one that is noted for it."""
    visit = [None for _ in came]
    found = []
    for start in range(len(came)):
        stand = start
        while stand is not None and visit[stand] is None:
            visit[stand] = start
            stand = came[stand]
        if stand is not None and visit[stand] == start:
            found.append(stand)
    return found


def _improved(edges, sums, came):
    """Whether a sum became greater by a step more, each step being gone once."""
    better = False
    for stand, further, amount in edges:
        total = sums[stand] + amount
        if sums[further] is None or total > sums[further]:
            sums[further] = total
            came[further] = stand
            better = True
    return better


def _all_behind(stands, starts):
    """These stands and all that come of them."""
    found = {stand: True for stand in starts}
    waiting = list(found)
    while waiting:
        stand = waiting.pop()
        for _, further in stands.steps[stand]:
            if further not in found:
                found[further] = True
                waiting.append(further)
    return found


class Walks:
    """The walks through the stands; with the factor -1 for what the other adds less what the one adds."""

    def __init__(self, stands, factor=1):
        self.factor = factor
        self.stands = stands
        self._greatest = {}
        self._few = {}
        self._single = {}

    def _amount(self, sign, state, far):
        stands = self.stands
        return self.factor * (stands.one.amounts[sign][state] - stands.other.amounts[sign][far])

    def _edges(self, state, far):
        """The steps as (stand, stand behind it, what is added)."""
        edges = []
        for index, (leads_one, leads_other, _, _) in enumerate(self.stands.found):
            near, away = leads_one[state], leads_other[far]
            for sign, further in self.stands.steps[index]:
                edges.append((index, further, self._amount(sign, near, away)))
        return edges

    def greatest(self, state, far):
        """For each stand the greatest sum of its words, from these states; None if there is no bound."""
        if (state, far) not in self._greatest:
            self._greatest[state, far] = self._greatest_sums(state, far)
        return self._greatest[state, far]

    def _greatest_sums(self, state, far):
        # Each stand was found of one ahead of it, so that it has a sum as soon as its own steps are gone.
        sums = [None for _ in self.stands.found]
        came = [None for _ in sums]
        for sign, stand in self.stands.starts:
            sums[stand] = self._amount(sign, state, far)
        edges = self._edges(state, far)
        while _improved(edges, sums, came):
            # A stand that came of itself adds more than 0 on the way round: all behind it have no bound.
            endless = _all_behind(self.stands, _circling(came))
            if endless:
                edges = [edge for edge in edges if edge[1] not in endless]
                for stand in endless:
                    sums[stand] = came[stand] = None
        return sums

    def few(self, state, far):
        """For each stand the shortest word with its sum, and the shortest one with another sum if there is one."""
        if (state, far) not in self._few:
            self._few[state, far] = self._few_words(state, far)
        return self._few[state, far]

    def _few_words(self, state, far):
        # A third sum is never needed: of two words to a stand one has a sum that is not the one asked for, and so has
        # it with the same signs behind it.
        found = [[] for _ in self.stands.found]
        waiting = [(stand, self._amount(sign, state, far), sign) for sign, stand in self.stands.starts]
        at = 0
        while at < len(waiting):
            stand, total, word = waiting[at]
            at += 1
            if len(found[stand]) == 2 or total in [kept for kept, _ in found[stand]]:
                continue
            found[stand].append((total, word))
            leads_one, leads_other, _, _ = self.stands.found[stand]
            near, away = leads_one[state], leads_other[far]
            for sign, further in self.stands.steps[stand]:
                waiting.append((further, total + self._amount(sign, near, away), word + sign))
        return found

    def single(self, state, far):
        """For each stand the sum that all its words have, from these states; None if there are several."""
        if (state, far) not in self._single:
            self._single[state, far] = [
                words[0][0] if len(words) == 1 else None for words in self.few(state, far)]
        return self._single[state, far]
