"""What a claim and a certificate for it are, gone through word by word of the document, apart from the package."""

from math import lcm

from by_hand import is_of, turnings
from wherebegun.errors import InvalidRow
from wherebegun.kinds import Kind
from wherebegun.loops import Loop

FORMS = {"differ": 6, "pumped": 4, "spread": 5, "settled": 4, "within": 6}


def is_number(value, least=None, most=None):
    return type(value) is int and (least is None or value >= least) and (most is None or value <= most)


def is_text(value):
    return type(value) is str and 1 <= len(value) <= 600 and all("a" <= sign <= "z" for sign in value)


def is_tuple(value, length=None):
    return type(value) is tuple and (length is None or len(value) == length)


class Told:
    """A loop and a kind by their rows, the states as their indexes."""

    def __init__(self, loop, kind):
        number = {state: at for at, state in enumerate(loop.states)}
        self.states = range(len(loop.states))
        self.next = {(number[state], sign): number[further] for state, sign, further, _ in loop.rows}
        self.amount = {(number[state], sign): amount for state, sign, _, amount in loop.rows}
        self.turn = {number[state]: (number[further], amount) for state, further, amount in loop.turns}
        self.yes = {number[state] for state in loop.yes}
        self.signs, self.pairs = kind.signs, kind.pairs
        # For each stand the stands that come of it by one sign more.
        self.onward = {}
        waiting = [self.stand_of(sign) for sign in self.signs]
        while waiting and len(self.onward) <= 600:
            stand = waiting.pop()
            if stand not in self.onward:
                leads, first, last = stand
                self.onward[stand] = {
                    sign: (tuple(self.next[state, sign] for state in leads), first, sign)
                    for sign in self.signs if last + sign in self.pairs}
                waiting.extend(self.onward[stand].values())

    def stand_of(self, sign):
        return (tuple(self.next[state, sign] for state in self.states), sign, sign)

    def fitting(self):
        return [(one, other) for one in self.onward for other in self.onward
                if one[2] + other[1] in self.pairs and other[2] + one[1] in self.pairs]

    def map_of(self, text):
        leads = tuple(self.states)
        for sign in text:
            leads = tuple(self.next[state, sign] for state in leads)
        return leads

    def answer(self, text, lap):
        state = 0
        for _ in range(lap):
            count = 0
            for sign in text:
                count, state = count + self.amount[state, sign], self.next[state, sign]
            state, more = self.turn[state]
        return count + more, state in self.yes

    def rounds(self, one, other, number):
        """For each of the first rounds the states ahead of it, the difference of the turns, and whether both say yes
        or neither does behind it."""
        found = []
        near = far = 0
        for _ in range(number):
            near_end, far_end = other[0][one[0][near]], one[0][other[0][far]]
            (near_next, amount), (far_next, less) = self.turn[near_end], self.turn[far_end]
            found.append((near, far, amount - less, (near_next in self.yes) == (far_next in self.yes)))
            near, far = near_next, far_next
        return found

    def read(self, bounds):
        """The bounds as a dict, or None if it is not a tuple of pairs of different stands and integers."""
        if not is_tuple(bounds):
            return None
        found = {}
        for pair in bounds:
            if not is_tuple(pair, 2) or not is_number(pair[1]) or not is_tuple(pair[0], 3) or not is_tuple(pair[0][0]):
                return None
            (leads, first, last), most = pair
            if not all(is_number(state) for state in leads) or type(first) is not str or type(last) is not str:
                return None
            if (leads, first, last) not in self.onward or (leads, first, last) in found:
                return None
            found[leads, first, last] = most
        return found

    def are_bounds(self, found, alone, more, above):
        """Whether these are bounds above, or below, what is given to a sign alone and to a stand and a sign."""
        for sign in self.signs:
            if not keeps(found.get(self.stand_of(sign)), alone(sign), above):
                return False
        for stand, steps in self.onward.items():
            for sign, further in steps.items():
                if further in found:
                    if stand not in found or not keeps(found[further], found[stand] + more(stand, sign), above):
                        return False
        return True

    def bounding(self, value):
        """The bounds for each two different states, or None if this is no bounding of any number."""
        if not is_tuple(value) or not all(is_tuple(triple, 3) for triple in value):
            return None
        found = {}
        for p, q, bounds in value:
            if not is_number(p, 0, len(self.states) - 1) or not is_number(q, 0, len(self.states) - 1):
                return None
            told = self.read(bounds)
            if p == q or (p, q) in found or told is None:
                return None
            if not self.are_bounds(
                    told, lambda sign: self.amount[p, sign] - self.amount[q, sign],
                    lambda stand, sign: self.amount[stand[0][p], sign] - self.amount[stand[0][q], sign], True):
                return None
            found[p, q] = told
        return found

    def bounds_round(self, found, lap, most):
        for one, other in self.fitting():
            near, far, turns, _ = self.rounds(one, other, lap)[-1]
            total = turns
            for p, q, stand in ((near, other[0][far], one), (one[0][near], far, other)):
                if p != q:
                    if stand not in found.get((p, q), {}):
                        return False
                    total += found[p, q][stand]
            if total > most:
                return False
        return True


def keeps(bound, value, above):
    return bound is None or (bound >= value if above else bound <= value)


def accepts_by_hand(claim, certificate):
    if not is_tuple(claim) or not claim or type(claim[0]) is not str or FORMS.get(claim[0]) != len(claim):
        return False
    try:
        loop, kind = Loop.made(claim[1]), Kind.made(claim[2])
    except InvalidRow:
        return False
    if not set(kind.signs) <= set(loop.signs) or not is_tuple(certificate):
        return False
    check = {"differ": differ, "pumped": pumped, "spread": spread, "settled": settled, "within": within}[claim[0]]
    return check(Told(loop, kind), claim[3:], certificate)


def differ(told, rest, certificate):
    one, other, lap = rest
    if not is_text(one) or not is_text(other) or not is_number(lap, 1, 99) or certificate != ():
        return False
    if other not in turnings(one) or not is_of(one, told.signs, told.pairs):
        return False
    return told.answer(one, lap) != told.answer(other, lap)


def pumped(told, rest, certificate):
    if not is_number(rest[0], 1, 99) or len(certificate) != 4:
        return False
    x, y, z, v = certificate
    if not (is_text(x) and is_text(y) and is_text(v) and (is_text(z) or (type(z) is str and z == ""))):
        return False
    differences = []
    for k in (1, 2):
        text = x + y * k + z
        if len(text + v) > 600 or not is_of(text + v, told.signs, told.pairs):
            return False
        differences.append(told.answer(text + v, rest[0])[0] - told.answer(v + text, rest[0])[0])
    return told.map_of(x + y) == told.map_of(x) and x[-1] == y[-1] and differences[0] != differences[1]


def spread(told, rest, certificate):
    lap, most = rest
    if not is_number(lap, 1, 99) or not is_number(most, 0) or len(told.onward) > 600:
        return False
    found = told.bounding(certificate)
    return found is not None and told.bounds_round(found, lap, most)


def settled(told, rest, certificate):
    number = rest[0]
    if not is_number(number, 0, 9) or len(told.onward) > 600:
        return False
    last = max(number, len(told.states) - 1) + lcm(*range(1, len(told.states) + 1))
    if len(certificate) != last - number:
        return False
    for lap, bounding in enumerate(certificate, start=number + 1):
        found = told.bounding(bounding)
        if found is None or not told.bounds_round(found, lap, 0):
            return False
    return all(alike for one, other in told.fitting() for _, _, _, alike in told.rounds(one, other, last)[number:])


def within(told, rest, certificate):
    lap, least, greatest = rest
    if not is_number(lap, 1, 99) or not is_number(least) or not is_number(greatest) or len(told.onward) > 600:
        return False
    found = {}
    for triple in certificate:
        if not is_tuple(triple, 3) or not is_number(triple[0], 0, len(told.states) - 1) or triple[0] in found:
            return False
        state = triple[0]
        found[state] = []
        for bounds, above in zip(triple[1:], (False, True)):
            told_bounds = told.read(bounds)
            if told_bounds is None or not told.are_bounds(
                    told_bounds, lambda sign: told.amount[state, sign],
                    lambda stand, sign: told.amount[stand[0][state], sign], above):
                return False
            found[state].append(told_bounds)
    for stand in told.onward:
        leads, first, last = stand
        if last + first in told.pairs:
            state = 0
            for _ in range(lap - 1):
                state = told.turn[leads[state]][0]
            more = told.turn[leads[state]][1]
            lows, highs = found.get(state, ({}, {}))
            if stand not in lows or stand not in highs:
                return False
            if lows[stand] + more < least or highs[stand] + more > greatest:
                return False
    return True
