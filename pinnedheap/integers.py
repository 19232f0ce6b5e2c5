"""What the other modules need to know of integers."""


def is_integer(value):
    """Return True if any value is an integer; a bool is none."""
    return isinstance(value, int) and not isinstance(value, bool)


def divided_up(number, divisor):
    """Return number / divisor, rounded up."""
    return -(-number // divisor)
