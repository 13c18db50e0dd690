"""Where a map leads, done again and again."""


class Course:
    """The states ahead of the rounds, if this map leads from each of them to that ahead of the next round."""

    def __init__(self, leads):
        self.path = [0]
        state = leads[0]
        while state not in self.path:
            self.path.append(state)
            state = leads[state]
        # The states from this index on come again and again, those ahead of it only once.
        self.head = self.path.index(state)
        self.again = len(self.path) - self.head

    def place(self, rounds):
        """The index in the path of the state behind so many rounds."""
        if rounds < len(self.path):
            return rounds
        return self.head + (rounds - self.head) % self.again

    def behind(self, rounds):
        """The state behind so many rounds."""
        return self.path[self.place(rounds)]

    def visits(self, rounds):
        """The states ahead of the first rounds, as pairs (state, ahead of how many of them it is)."""
        found = []
        for at, state in enumerate(self.path[:rounds]):
            times = 1 if at < self.head else (rounds - 1 - at) // self.again + 1
            found.append((state, times))
        return found

    def shares(self, parts):
        """The states that come again and again, as pairs (state, its share of so many parts)."""
        return [(state, parts // self.again) for state in self.path[self.head:]]
