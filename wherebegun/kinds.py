"""Kinds: which signs of a ring may follow one another."""

from wherebegun.checks import first_wrong, is_integer_from, is_sign_of, is_signs
from wherebegun.errors import InvalidNumber, InvalidPairs, InvalidRow, InvalidSigns, NoRing, NotAKind
from wherebegun.limits import MOST_LENGTH
from wherebegun.rings import Ring


def _is_pair(value, signs):
    if not isinstance(value, str) or len(value) != 2:
        return False
    return is_sign_of(value[0], signs) and is_sign_of(value[1], signs)


def _check_pairs(pairs, signs):
    if not isinstance(pairs, tuple):
        raise InvalidPairs(None)
    wrong = first_wrong(pairs, [_is_pair(pair, signs) for pair in pairs])
    if wrong is not None:
        raise InvalidPairs(wrong)


def _all_pairs(signs):
    return tuple([sign + after for sign in signs for after in signs])


def _goes_round(text, pairs):
    # The index -1 of the first neighbour is the last sign, which the first one follows.
    return all([text[at - 1] + text[at] in pairs for at in range(len(text))])


def _has_ring(signs, pairs):
    left = list(signs)
    # Behind so many times a sign that is left begins a walk that is longer than all without a ring.
    for _ in signs:
        left = [sign for sign in left if any([sign + after in pairs for after in left])]
    return len(left) > 0


def _least_turnings(signs, length):
    """The words of this length that are the least of their turnings, ascending."""
    # Duval's way from one word that is less than all its other turnings to the next one, of any length up to this.
    word = signs[0]
    while word:
        if length % len(word) == 0:
            yield word * (length // len(word))
        word = (word * length)[:length].rstrip(signs[-1])
        if word:
            word = word[:-1] + signs[signs.index(word[-1]) + 1]


class Kind:
    """The rings of these signs in which only these pairs are neighbours; all pairs for None."""

    def __init__(self, signs, pairs=None):
        if not is_signs(signs):
            raise InvalidSigns(signs)
        if pairs is not None:
            _check_pairs(pairs, signs)
        self._signs = "".join(sorted(signs))
        self._pairs = _all_pairs(self._signs) if pairs is None else tuple(sorted(pairs))
        self._ringed = _has_ring(self._signs, self._pairs)

    @property
    def signs(self):
        """The signs, ascending."""
        return self._signs

    @property
    def pairs(self):
        """The pairs, ascending."""
        return self._pairs

    @property
    def row(self):
        """The signs and the pairs."""
        return (self._signs, self._pairs)

    @classmethod
    def made(cls, row):
        """The kind with this row."""
        if not isinstance(row, tuple) or len(row) != 2:
            raise InvalidRow(row)
        try:
            kind = cls(row[0], row[1])
        except (InvalidSigns, InvalidPairs):
            raise InvalidRow(row) from None
        if kind.row != row:
            raise InvalidRow(row)
        return kind

    def rings(self, length):
        """All different rings of the kind with so many signs, ascending by their texts."""
        if not is_integer_from(length, 1) or length > MOST_LENGTH:
            raise InvalidNumber(length)
        for text in _least_turnings(self._signs, length):
            if _goes_round(text, self._pairs):
                yield Ring(text)

    def __eq__(self, other):
        return isinstance(other, Kind) and self._signs == other._signs and self._pairs == other._pairs

    def __contains__(self, value):
        return isinstance(value, Ring) and _goes_round(value.text, self._pairs)

    def __bool__(self):
        return bool(self._ringed)

    def __and__(self, other):
        if not isinstance(other, Kind):
            raise NotAKind(other)
        signs = "".join([sign for sign in self._signs if sign in other._signs])
        if not signs:
            raise NoRing()
        return Kind(signs, tuple([pair for pair in self._pairs if pair in other._pairs]))
