"""What several modules ask of the values that they are passed."""

from wherebegun.limits import MOST_WORD


def is_integer(value):
    """Whether this is an integer: an int other than True and False."""
    return isinstance(value, int) and not isinstance(value, bool)


def is_word(value):
    """Whether this is a word of at most 600 signs."""
    # The length comes first, so that no long string is gone through in vain.
    if not isinstance(value, str) or not 1 <= len(value) <= MOST_WORD:
        return False
    return all(["a" <= sign <= "z" for sign in value])
