"""What words add, read from one state, less what they add read from behind, from another one."""

from wherebegun.greatest import greatest_sums


class BackWalks:
    """The walks through the stands of a loop that goes back, too; with the factor -1 for the opposite difference.

    With each sign more a word is read from behind by another state than before: the state that reads the last sign of
    the whole word leads to it. So the walks are those through the stands with such states, the last one of which is
    the state from which the whole word is read.
    """

    def __init__(self, stands, factor=1):
        self.factor = factor
        self.stands = stands
        self._states = len(stands.one.says)
        self._known = {}

    def greatest(self, state, far):
        """For each stand the greatest sum of its words, from these states; None if there is no bound."""
        if state not in self._known:
            sums = self._greatest_sums(state)
            self._known[state] = [sums[last::self._states] for last in range(self._states)]
        return self._known[state][far]

    def _node(self, stand, far):
        return stand * self._states + far

    def _amount(self, sign, state, far):
        amounts = self.stands.one.amounts[sign]
        return self.factor * (amounts[state] - amounts[far])

    def _greatest_sums(self, state):
        stands = self.stands
        starts = [
            (self._node(stand, far), self._amount(sign, state, far))
            for sign, stand in stands.starts for far in range(self._states)]
        edges = []
        for index, (leads, _, _, _) in enumerate(stands.found):
            for sign, further in stands.steps[index]:
                # Read from behind, the further sign comes first and leads to the state that reads the rest.
                edges.extend([
                    (self._node(index, rest), self._node(further, far), self._amount(sign, leads[state], far))
                    for far, rest in enumerate(stands.one.nexts[sign])])
        return greatest_sums(len(stands.found) * self._states, starts, edges)[0]
