"""What the tests share: loops and rings gone through step by step, apart from the package's own ways."""

import itertools
import unittest

from wherebegun.kinds import Kind
from wherebegun.loops import Loop
from wherebegun.rings import Ring

NAMES = "pqrstu"
FAR = 10 ** 30
EVERY = Kind("ab")
SWITCH = Kind("ab", ("ab", "ba"))
SHIFT_ROWS = (
    ("n", "a", "p", 0), ("n", "b", "q", 0), ("p", "a", "p", 0), ("p", "b", "q", 1), ("q", "a", "p", 1),
    ("q", "b", "q", 0))
SHIFTS = Loop("ab", ("n", "p", "q"), SHIFT_ROWS)
ANEW = Loop("ab", ("n", "p", "q"), SHIFT_ROWS, (("p", "n", 0), ("q", "n", 0)))
ODD = Loop(
    "ab", ("e", "o"), (("e", "a", "o", 0), ("e", "b", "e", 0), ("o", "a", "e", 0), ("o", "b", "o", 1)), yes=("o",))


class Equal:
    """Would be equal to everything, if it were asked."""

    def __eq__(self, other):
        return True


NO_SIGNS = (
    "", "aa", "aba", "abcde", "abcda", "A", "aB", "a1", "a b", " ", "\n", "a\n", "ab-", "`", "{", "a" * 601, None, True,
    False, 0, 1, b"ab", ("a",), ("a", "b"), ["a"], {"a"}, {"a": 1}, (), [], Kind, Loop, Ring("ab"), EVERY, ANEW,
    Equal(),
)


class Case(unittest.TestCase):
    def refuses(self, error, value, action, attribute="given"):
        """The action raises just this error with just this value."""
        with self.assertRaises(error) as held:
            action()
        self.assertIs(type(held.exception), error)
        found = getattr(held.exception, attribute)
        if attribute == "given":
            self.assertIs(found, value)
        self.assertEqual((type(found), found), (type(value), value))


def loop_of(nexts, amounts=None, turns=None, turn_amounts=None, yes=""):
    """A loop with states p, q, ..: for each sign the states that these lead to, as a string, and the amounts."""
    signs = "".join(nexts)
    states = tuple(NAMES[:len(nexts[signs[0]])])
    amounts = amounts or {sign: (0,) * len(states) for sign in signs}
    rows = [row for sign in signs for row in zip(states, sign * len(states), nexts[sign], amounts[sign])]
    told = zip(states, turns or states, turn_amounts or (0,) * len(states))
    return Loop(signs, states, tuple(rows), tuple(told), yes=tuple(yes))


def some_loop(random, signs, number, most=1):
    """Any loop with so many states."""
    states = NAMES[:number]
    nexts = {sign: "".join(random.choices(states, k=number)) for sign in signs}
    if random.random() < 0.3:
        nexts = {sign: "".join(random.sample(states, k=number)) for sign in signs}
    amounts = {sign: tuple(random.randint(-most, most) for _ in states) for sign in signs}
    if random.random() < 0.3:
        # What a row adds depends on where it leads from and to alone, so that there is a bound for many differences.
        height = {state: random.randint(-2, 2) for state in states}
        amounts = {sign: tuple(height[to] - height[state] for state, to in zip(states, nexts[sign])) for sign in signs}
    turns = "".join(random.choices(states, k=number)) if random.random() < 0.6 else states
    turn_amounts = tuple(random.randint(-most, most) if random.random() < 0.3 else 0 for _ in states)
    return loop_of(nexts, amounts, turns, turn_amounts, "".join(state for state in states if random.random() < 0.5))


def steps(loop, text, rounds):
    """For each of the first rounds (count, True or False for yes, name of the state), by the rows and the turns."""
    rows = {(state, sign): (further, amount) for state, sign, further, amount in loop.rows}
    turns = {state: (further, amount) for state, further, amount in loop.turns}
    state = loop.states[0]
    found = []
    for _ in range(rounds):
        count = 0
        for sign in text:
            state, amount = rows[state, sign]
            count += amount
        state, amount = turns[state]
        found.append((count + amount, state in loop.yes, state))
    return found


def answers(loop, text, rounds):
    return tuple((count, said) for count, said, _ in steps(loop, text, rounds))


def words(signs, length):
    return ["".join(chosen) for chosen in itertools.product(sorted(signs), repeat=length)]


def turnings(word):
    return [word[place:] + word[:place] for place in range(len(word))]


def is_of(word, signs, pairs):
    """Whether the ring of this word has these signs and pairs alone."""
    return all(sign in signs for sign in word) and all(word[at - 1] + word[at] in pairs for at in range(len(word)))


def texts_of(kind, length):
    """The texts of all rings of the kind with so many signs."""
    return [word for word in words(kind.signs, length)
            if is_of(word, kind.signs, kind.pairs) and word == min(turnings(word))]


def number_of_stands(loops, kind, most=2000):
    """How many stands the words of the kind have, for these loops at once."""
    leads = [{(state, sign): further for state, sign, further, _ in loop.rows} for loop in loops]
    waiting = []
    for sign in kind.signs:
        maps = tuple(tuple(table[state, sign] for state in loop.states) for loop, table in zip(loops, leads))
        waiting.append((maps, sign, sign))
    found = set(waiting)
    while waiting and len(found) <= most:
        maps, first, last = waiting.pop()
        for sign in kind.signs:
            if last + sign in kind.pairs:
                more = tuple(tuple(table[state, sign] for state in told) for told, table in zip(maps, leads))
                if (more, first, sign) not in found:
                    found.add((more, first, sign))
                    waiting.append((more, first, sign))
    return len(found)


def leads(loop, text):
    """The names of the states to which this word leads each state, without a turn."""
    table = {(state, sign): further for state, sign, further, _ in loop.rows}
    states = list(loop.states)
    for sign in text:
        states = [table[state, sign] for state in states]
    return states
