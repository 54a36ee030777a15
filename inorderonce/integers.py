"""What an integer is here: True and False are none."""


def is_integer(value):
    """Judge whether this is an integer, of whatever size."""
    return isinstance(value, int) and not isinstance(value, bool)


def is_between(value, least, most):
    """Judge whether this is an integer that is not below least and not above most."""
    return is_integer(value) and least <= value <= most
