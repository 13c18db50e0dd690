"""Rings: words of which only the turnings matter."""

from wherebegun.checks import is_integer, is_word
from wherebegun.errors import InvalidNumber, InvalidPlace, InvalidWord, NotARing
from wherebegun.limits import MOST_WORD


def _all_turnings(word):
    return [word[place:] + word[:place] for place in range(len(word))]


def _is_place_with_number(value):
    if not isinstance(value, tuple) or len(value) != 2:
        return False
    place, number = value
    return is_integer(place) and is_integer(number) and 1 <= number <= MOST_WORD


def _read_round(text, place, number):
    start = place % len(text)
    times = (start + number) // len(text) + 1
    return (text * times)[start:start + number]


class Ring:
    """The ring with this turning."""

    def __init__(self, text):
        if not is_word(text):
            raise InvalidWord(text)
        turnings = _all_turnings(text)
        self._text = min(turnings)
        self._period = len(set(turnings))

    @property
    def text(self):
        """The least turning."""
        return self._text

    @property
    def period(self):
        """The number of different turnings."""
        return self._period

    def turned(self, i):
        """The turning from this place on, as a word."""
        if not is_integer(i):
            raise InvalidPlace(i)
        return _read_round(self._text, i, len(self._text))

    def __str__(self):
        return str(self._text)

    def __len__(self):
        return len(self._text)

    def __eq__(self, other):
        return isinstance(other, Ring) and self._text == other._text

    def __iter__(self):
        return iter(self._text)

    def __getitem__(self, at):
        if is_integer(at):
            return self._text[at % len(self._text)]
        if not _is_place_with_number(at):
            raise InvalidPlace(at)
        place, number = at
        return _read_round(self._text, place, number)

    def __contains__(self, word):
        if not is_word(word):
            return False
        # From each place the word ends before the text has come so many times.
        times = len(word) // len(self._text) + 2
        return word in self._text * times

    def __invert__(self):
        return Ring(self._text[::-1])

    def __mul__(self, other):
        if not is_integer(other) or other < 1:
            raise InvalidNumber(other)
        if len(self._text) * other > MOST_WORD:
            raise InvalidWord(other)
        return Ring(self._text * other)

    def __add__(self, other):
        if not isinstance(other, Ring):
            raise NotARing(other)
        if len(self._text) + len(other._text) > MOST_WORD:
            raise InvalidWord(other)
        return Ring(self._text + other._text)
