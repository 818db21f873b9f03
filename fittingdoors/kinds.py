"""What kind a value has. Every value of every kind may be asked about."""


def is_integer(value):
    """Whether a value is an integer; True and False are none."""
    return isinstance(value, int) and not isinstance(value, bool)


def is_integer_within(value, least, most):
    """Whether a value is an integer from LEAST to MOST."""
    return is_integer(value) and least <= value <= most


def is_tuple_within(value, least, most):
    """Whether a value is a tuple of LEAST to MOST things."""
    return isinstance(value, tuple) and least <= len(value) <= most
