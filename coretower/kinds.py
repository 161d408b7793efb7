"""What names, numbers, standings and deeds are."""

LETTERS = "abcdefghijklmnopqrstuvwxyz"


def is_name(value):
    """Whether this, any value, is a string of 1 to 8 letters from a to z."""
    if not isinstance(value, str):
        return False
    return 1 <= len(value) <= 8 and all([letter in LETTERS for letter in value])


def is_below(value, bound):
    """Whether this, any value, is an integer from 0 to bound - 1; True and False are none."""
    return isinstance(value, int) and not isinstance(value, bool) and 0 <= value < bound


def is_number(value):
    """Whether this, any value, is a number."""
    return is_below(value, 10)


def is_deed(value):
    """Whether this, any value, is a deed."""
    if not isinstance(value, tuple) or len(value) != 3:
        return False
    caller, word, what = value
    if not is_below(caller, 3) or not isinstance(word, str):
        return False
    if word == "call":
        return is_name(what)
    return word in ("return", "step") and is_number(what)


def is_visible(deed):
    """Whether a deed is a call or a return."""
    return deed[1] != "step"
