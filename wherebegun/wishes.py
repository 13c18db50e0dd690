"""Wishes: what the loops and kinds of a book are to be like."""

from wherebegun.asked import check_asked
from wherebegun.begun import alike, count_range
from wherebegun.checks import is_integer, is_name, is_near_lap, is_warm
from wherebegun.errors import NoRing, NotAKind, NotALoop, OtherSigns, TooMany
from wherebegun.needed import stands_of
from wherebegun.rounds import matters_behind


def is_wish(value):
    """Whether this is a wish of one of the three forms, whatever stands under its names."""
    if not isinstance(value, tuple) or len(value) < 4 or not isinstance(value[0], str):
        return False
    what, told = value[0], value[1:]
    if what == "settles":
        return len(told) == 3 and _are_names(told[:2]) and is_warm(told[2])
    if what == "within":
        return len(told) == 5 and _are_names(told[:2]) and is_near_lap(told[2]) and _are_ends(told[3:])
    return what == "alike" and len(told) == 3 and _are_names(told)


def _are_names(values):
    return all([is_name(value) for value in values])


def _are_ends(values):
    return all([value is None or is_integer(value) for value in values])


def names_of(wish):
    """The names in this wish, in its order."""
    return wish[1:] if wish[0] == "alike" else wish[1:3]


def holds(wish, systems):
    """Whether this wish holds for what stands under its names."""
    parts = [systems[name] for name in names_of(wish)]
    try:
        return _is_so(wish, parts)
    except NoRing:
        # What makes a wish not hold even so is found ahead of this.
        return True
    except (NotALoop, NotAKind, OtherSigns, TooMany):
        return False


def _is_so(wish, parts):
    if wish[0] == "alike":
        one, other, kind = parts
        return alike(one, other, kind)
    loop, kind = parts
    if wish[0] == "settles":
        check_asked(loop, kind)
        return not matters_behind(stands_of(loop, kind), wish[3])
    least, greatest = count_range(loop, kind, wish[3])
    return _is_above(least, wish[4]) and _is_below(greatest, wish[5])


def _is_above(least, end):
    return end is None or (least is not None and least >= end)


def _is_below(greatest, end):
    return end is None or (greatest is not None and greatest <= end)
