"""What the words of each stand add: the sum of their amounts from one state of the one loop less that from one state
of the other, each word being a walk through the stands."""

from wherebegun.greatest import greatest_sums


class Walks:
    """The walks through the stands.

    Each difference of amounts is taken so many times as the factor says; with the factor -1 it is what the other adds
    less what the one adds. For each sign `step` is taken away: where the factor is great enough, of the words with one
    difference the shorter one then has the greater sum.
    """

    def __init__(self, stands, factor=1, step=0):
        self.factor = factor
        self.stands = stands
        self._step = step
        self._best = {}
        self._few = {}
        self._onward = {}
        self._single = {}

    def _amount(self, sign, state, far):
        stands = self.stands
        return self.factor * (stands.one.amounts[sign][state] - stands.other.amounts[sign][far]) - self._step

    def firsts(self, state, far):
        """The words of one sign, as pairs (stand, what the sign adds)."""
        return [(stand, self._amount(sign, state, far)) for sign, stand in self.stands.starts]

    def edges(self, state, far):
        """The steps as (stand, stand behind it, what is added)."""
        edges = []
        for index, (leads_one, leads_other, _, _) in enumerate(self.stands.found):
            near, away = leads_one[state], leads_other[far]
            for sign, further in self.stands.steps[index]:
                edges.append((index, further, self._amount(sign, near, away)))
        return edges

    def _best_sums(self, state, far):
        # Each stand was found of one ahead of it: so the edges have the order that is asked for.
        if (state, far) not in self._best:
            self._best[state, far] = greatest_sums(
                len(self.stands.found), self.firsts(state, far), self.edges(state, far))
        return self._best[state, far]

    def greatest(self, state, far):
        """For each stand the greatest sum of its words, from these states; None if there is no bound."""
        return self._best_sums(state, far)[0]

    def word(self, state, far, stand):
        """A word of this stand that has the greatest sum."""
        came = self._best_sums(state, far)[1]
        signs = []
        while stand is not None:
            signs.append(self.stands.found[stand][3])
            stand = came[stand]
        return "".join(signs[::-1])

    def few(self, state, far):
        """For each stand the shortest word with its sum, and the shortest one with another sum if there is one."""
        if (state, far) not in self._few:
            waiting = [
                (stand, self._amount(sign, state, far), sign) for sign, stand in self.stands.starts]
            self._few[state, far] = self._few_words(waiting, state, far)
        return self._few[state, far]

    def onward(self, state, far, start):
        """The same with what leads from the words of one stand to those of each, which may be nothing."""
        if (state, far, start) not in self._onward:
            self._onward[state, far, start] = self._few_words([(start, 0, "")], state, far)
        return self._onward[state, far, start]

    def _few_words(self, waiting, state, far):
        # A third sum is never needed: of two words to a stand one has a sum that is not the one asked for, and so has
        # it with the same signs behind it.
        found = [[] for _ in self.stands.found]
        at = 0
        while at < len(waiting):
            stand, total, word = waiting[at]
            at += 1
            if len(found[stand]) == 2 or total in [kept for kept, _ in found[stand]]:
                continue
            found[stand].append((total, word))
            leads_one, leads_other, _, _ = self.stands.found[stand]
            near, away = leads_one[state], leads_other[far]
            for sign, further in self.stands.steps[stand]:
                waiting.append((further, total + self._amount(sign, near, away), word + sign))
        return found

    def single(self, state, far):
        """For each stand the sum that all its words have, from these states; None if there are several."""
        if (state, far) not in self._single:
            self._single[state, far] = [
                words[0][0] if len(words) == 1 else None for words in self.few(state, far)]
        return self._single[state, far]
