"""Small questions about values and numbers that several parts ask."""


def is_whole(value):
    """Whether a value is an integer; True and False are none."""
    return isinstance(value, int) and not isinstance(value, bool)


def are_bounds(word, least, most):
    """Whether two values are numbers of members for a "row", "set" or "ring", of any size."""
    lowest = 1 if word == "ring" else 0
    if not is_whole(least) or least < lowest:
        return False
    return most is None or (is_whole(most) and most >= least)


def more_than_one(most):
    """Whether a greatest number of members, or None for no bound, allows two members."""
    return most is None or most > 1
