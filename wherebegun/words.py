"""The shortest words with which answers differ."""


def fewest_unlike(way, walks, moment):
    """For the stands that each ring of this way may have, the shortest words with which the answers differ.

    Each is a tuple of words, as many as the ring has. Stands with which the answers never differ have none.
    """
    few = [walks.few(state, far) for state, far in way.read_from(moment)]
    alike_sum = -walks.factor * way.turn_difference(moment)
    differ = not way.says_alike(moment)
    found = []
    for met in way.meets:
        # It is enough to choose of the two words that each stand has: one of them fits any words of the others.
        choices = _choices([kept[stand] for kept, stand in zip(few, met)])
        unlike = [words for total, words in choices if differ or total != alike_sum]
        if unlike:
            found.append(min(unlike, key=signs_in_all))
    return found


def _choices(lists):
    """All ways of taking one word of each list, as pairs (sum of all, tuple of the words)."""
    chosen = [(0, ())]
    for kept in lists:
        chosen = [(total + more, words + (word,)) for total, words in chosen for more, word in kept]
    return chosen


def signs_in_all(words):
    """How many signs these words have."""
    return sum([len(word) for word in words])
