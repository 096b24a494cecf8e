"""Checks of values that several modules make."""


def is_number(value):
    """Whether the value is an integer."""
    # Python counts True and False as integers; here they are no numbers.
    return isinstance(value, int) and not isinstance(value, bool)


def is_below(value, limit):
    """Whether the value is an integer from 0 to limit - 1."""
    return is_number(value) and 0 <= value < limit
