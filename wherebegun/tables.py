"""A loop in numbers: its states are their indexes, its amounts stand in the order of the states."""


class Table:
    """What a loop with this row does with each sign and at each turn."""

    def __init__(self, row):
        signs, states, rows, turns, yes = row
        self.number = {state: at for at, state in enumerate(states)}
        self.nexts = {sign: tuple([self.number[told[2]] for told in rows if told[1] == sign]) for sign in signs}
        self.amounts = {sign: tuple([told[3] for told in rows if told[1] == sign]) for sign in signs}
        self.turn_nexts = tuple([self.number[told[1]] for told in turns])
        self.turn_amounts = tuple([told[2] for told in turns])
        self.says = tuple([state in yes for state in states])

    def gone(self, text, start):
        """The state behind a round from this state, its turn included, and the count of the round."""
        state = start
        count = 0
        for sign in text:
            count += self.amounts[sign][state]
            state = self.nexts[sign][state]
        return self.turn_nexts[state], count + self.turn_amounts[state]

    def leads(self, text):
        """The map of this word."""
        leads = tuple(range(len(self.says)))
        for sign in text:
            leads = tuple([self.nexts[sign][state] for state in leads])
        return leads

    def with_turn(self, leads):
        """The map that the turn makes of the map of a word."""
        return tuple([self.turn_nexts[state] for state in leads])


def still_table(signs):
    """The table of a loop that has one state and adds nothing."""
    rows = tuple([("still", sign, "still", 0) for sign in signs])
    return Table((signs, ("still",), rows, (("still", "still", 0),), ()))
