"""What several modules ask of the values that they are passed."""

from wherebegun.limits import MOST_ROUNDS, MOST_SIGNS, MOST_WARM, MOST_WORD

MOST_NAME = 8


def is_integer(value):
    """Whether this is an integer: an int other than True and False."""
    return isinstance(value, int) and not isinstance(value, bool)


def is_integer_from(value, least):
    """Whether this is an integer that is not less than the other one."""
    return is_integer(value) and value >= least


def is_near_lap(value):
    """Whether this is the number of a round of which wishes and claims may speak."""
    return is_integer_from(value, 1) and value <= MOST_ROUNDS


def is_warm(value):
    """Whether this is a number of warm-up rounds that can be asked for."""
    return is_integer_from(value, 0) and value <= MOST_WARM


def is_word(value):
    """Whether this is a word of at most 600 signs."""
    # The length comes first, so that no long string is gone through in vain.
    if not isinstance(value, str) or not 1 <= len(value) <= MOST_WORD:
        return False
    return all(["a" <= sign <= "z" for sign in value])


def is_signs(value):
    """Whether this is a string of one to four different signs."""
    return is_word(value) and len(value) <= MOST_SIGNS and len(set(value)) == len(value)


def is_sign_of(value, signs):
    """Whether this is one of these signs."""
    return isinstance(value, str) and len(value) == 1 and value in signs


def is_name(value):
    """Whether this is a name."""
    if not isinstance(value, str) or not 1 <= len(value) <= MOST_NAME or not "a" <= value[0] <= "z":
        return False
    return all(["a" <= character <= "z" or "0" <= character <= "9" for character in value])


def first_wrong(values, right):
    """The index of the first value that is not right or that stands ahead, too; None if there is none."""
    # A value is compared with others only if it is right: then it is nothing that has an equality of its own.
    for index, value in enumerate(values):
        if not right[index] or value in values[:index]:
            return index
    return None
