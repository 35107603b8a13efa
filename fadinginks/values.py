"""What a value is, told of any value whatever, without an error."""


def is_whole(value, low, high):
    """Tell whether value is an integer from low to high."""
    # A bool counts as an int in Python, but never in this package.
    return isinstance(value, int) and not isinstance(value, bool) and low <= value <= high


def is_row(value, least, most):
    """Tell whether value is a tuple of least to most items."""
    return isinstance(value, tuple) and least <= len(value) <= most


def is_letter(value):
    """Tell whether value is a text of one small letter."""
    return isinstance(value, str) and len(value) == 1 and "a" <= value <= "z"


def is_span(low, high, most):
    """Tell whether low and high are the bounds of a rest of at most most."""
    return is_whole(low, 0, most) and is_whole(high, low, most)


def are_rests(value, bounds):
    """Tell whether value is a tuple of a rest for each pair (low, high) of bounds."""
    if not is_row(value, len(bounds), len(bounds)):
        return False
    return all([is_whole(rest, low, high) for rest, (low, high) in zip(value, bounds)])
