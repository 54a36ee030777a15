"""Kinds of values that all modules judge by: integers, lists, and tuples of a form."""


def is_integer(value):
    """Judge whether this is an integer, of whatever size: True and False are none."""
    return isinstance(value, int) and not isinstance(value, bool)


def is_between(value, least, most):
    """Judge whether this is an integer that is not below least and not above most."""
    return is_integer(value) and least <= value <= most


def is_count(value):
    """Judge whether this is a count, of whatever size."""
    return is_integer(value) and value >= 0


def is_number(value):
    """Judge whether this is an integer from 1 on, of whatever size."""
    return is_integer(value) and value >= 1


def is_brokers(value):
    """Judge whether so many brokers may be together."""
    return is_integer(value) and value in (1, 3, 5)


def is_list_of(value, judge):
    """Judge whether this is a list or a tuple in which each item is as judge, a function, asks."""
    return isinstance(value, (list, tuple)) and all([judge(part) for part in value])


def has_word(value):
    """Judge whether this is a tuple that begins with a text."""
    return isinstance(value, tuple) and len(value) > 0 and isinstance(value[0], str)


def fits(value, form):
    """Judge whether this is a tuple of just such parts as a form, a tuple of functions, tells."""
    if not isinstance(value, tuple) or len(value) != len(form):
        return False
    for judge, part in zip(form, value):
        if not judge(part):
            return False
    return True
