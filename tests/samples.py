"""Loops and kinds that many tests share, their rings written out, and arguments that are not valid."""

import random
from functools import lru_cache

from by_hand import ANEW, EVERY, FAR, ODD, SHIFTS, Equal, answers, loop_of, some_loop, texts_of, turnings
from wherebegun.errors import InvalidRound, NotAKind, NotALoop
from wherebegun.kinds import Kind
from wherebegun.loops import Loop
from wherebegun.rings import Ring

KINDS = (
    Kind("ab"), Kind("ab", ("ab", "ba")), Kind("ab", ("aa", "ab", "ba")), Kind("ab", ("ab", "ba", "bb")),
    Kind("ab", ("aa", "ab")), Kind("ab", ("aa", "bb")), Kind("a"), Kind("b"), Kind("ab", ("bb",)))
THREE_SIGNS = (
    Kind("abc", ("ab", "bc", "ca")), Kind("abc", ("ab", "ba", "cc")), Kind("abc", ("ab", "ba", "bc", "cb")),
    Kind("abc", ("ab", "bc", "ca", "aa")), Kind("ac", ("ac", "ca", "cc")))
ROUNDS = 12
# Rounds of which those behind the sixth come again for loops with up to three states.
LAPS = ((1, 1), (2, 2), (1, 2), (3, 1), (5, 8))
# How long the rings are that are written out, at first and then where these do not tell.
LENGTHS = {1: (12,), 2: (6, 9, 11, 13), 3: (5, 7, 9, 11)}

# They have just 600 stands and just 601, over the signs a and b with all pairs.
JUST_600 = loop_of({"a": "rsqtt", "b": "ssqpr"}, {"a": (0, 1, 0, 0, 0), "b": (0, 0, 1, 0, 0)}, "qrstp", None, "q")
JUST_601 = loop_of({"a": "rspqq", "b": "trpsr"})
# Two loops that have just 600 stands together, and two that have 604.
FIRST_OF_600 = loop_of({"a": "pppr", "b": "qrsp"}, None, None, None, "q")
SECOND_OF_600 = loop_of({"a": "pqp", "b": "qrp"})
FIRST_OF_604, SECOND_OF_604 = loop_of({"a": "rsqp", "b": "qrqr"}), loop_of({"a": "rpq", "b": "qqp"})


class Rings:
    """What is told of all rings of a kind up to some lengths: `tell` gives it for a text, as a tuple."""

    def __init__(self, kind, tell):
        self.kind = kind
        self.tell = tell
        self.lengths = LENGTHS[len(kind.signs)]
        self.told = {}

    def of_length(self, length):
        if length not in self.told:
            self.told[length] = [self.tell(text) for text in texts_of(self.kind, length)]
        return self.told[length]

    def up_to(self, length):
        return [ring for size in range(1, length + 1) for ring in self.of_length(size)]

    def greatest(self, measure, length):
        return max((measure(*told) for told in self.up_to(length)), default=None)

    def holds(self, test):
        """Whether for some ring of the first length to which the rings are written out this holds."""
        return any(test(*told) for told in self.up_to(self.lengths[0]))

    def is_greatest(self, value, measure):
        """Whether this is the greatest of what is measured; None if it is greater and greater for longer rings."""
        for length in self.lengths:
            found = self.greatest(measure, length)
            if value is not None and found is not None and found > value:
                return False
            if value is None:
                before = self.greatest(measure, length // 2)
                if found is not None and before is not None and found > before:
                    return True
            elif found == value:
                return True
        return False


def from_all_places(loop, text):
    """The answers of the first rounds, begun at each place."""
    return [answers(loop, turning, ROUNDS) for turning in turnings(text)]


def rings_of_two(one, other, kind):
    """For each ring the answers of both loops, begun at each of its places."""
    return Rings(kind, lambda text: (from_all_places(one, text), from_all_places(other, text)))


def opposite(value):
    return None if value is None else -value


@lru_cache(maxsize=None)
def samples():
    """Pairs of loops with a kind, and their rings."""
    source = random.Random(12)
    found = []
    for kind in KINDS * 4 + THREE_SIGNS * 2:
        signs = "abc" if "c" in kind.signs else "ab"
        one = some_loop(source, signs, source.choice((1, 2, 2, 3)), source.choice((0, 1, 1, 2)))
        other = one if source.random() < 0.2 else some_loop(source, one.signs, source.choice((1, 2)), 1)
        found.append((one, other, kind, rings_of_two(one, other, kind)))
    for one, other in ((SHIFTS, ANEW), (ANEW, SHIFTS), (ODD, SHIFTS), (SHIFTS, SHIFTS), (ODD, ODD)):
        for kind in KINDS[:5]:
            found.append((one, other, kind, rings_of_two(one, other, kind)))
    return found


NO_LOOPS = (None, True, 0, "", "ab", (), [], {}, SHIFTS.row, list(SHIFTS.row), EVERY, Ring("ab"), Loop, Equal())
NO_KINDS = (None, True, 0, "", "ab", (), [], {}, EVERY.row, list(EVERY.row), SHIFTS, Ring("ab"), Kind, Equal())
NO_ROUNDS = (0, -1, -FAR, None, True, False, "1", "", b"1", (), (1,), [1], {}, SHIFTS, EVERY, Ring("a"), Equal())
NO_LATER = tuple(value for value in NO_ROUNDS if value is not None)
WRONG = {
    "loop": (NotALoop, NO_LOOPS), "one": (NotALoop, NO_LOOPS), "other": (NotALoop, NO_LOOPS),
    "kind": (NotAKind, NO_KINDS), "lap": (InvalidRound, NO_ROUNDS), "later": (InvalidRound, NO_LATER)}


def called(function, names, values):
    """The function called by position, but for what stands behind the star."""
    told = dict(zip(names, values))
    later = {"later": told.pop("later")} if "later" in told else {}
    return function(*told.values(), **later)
