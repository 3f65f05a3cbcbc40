"""What kind of value something is."""


def is_integer(value):
    """Whether a value is an integer: True and False are none, though Python has them equal to 1 and 0."""
    return isinstance(value, int) and not isinstance(value, bool)


def is_sequence(value):
    """Whether a value may be passed as a sequence."""
    return isinstance(value, (list, tuple))
