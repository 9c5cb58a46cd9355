"""Of which kind a value is; each function takes any value."""


def is_integer(value):
    """Whether it is an int that is not a bool."""
    return isinstance(value, int) and not isinstance(value, bool)


def is_number(value):
    """Whether it is an integer from 0 on."""
    return is_integer(value) and value >= 0


def is_bit(value):
    """Whether it is the integer 0 or 1."""
    return is_integer(value) and 0 <= value <= 1


def is_sequence(value):
    """Whether it is a tuple or a list."""
    return isinstance(value, (tuple, list))


def are_numbers(value):
    """Whether it is a sequence of numbers, perhaps of none."""
    return is_sequence(value) and all([is_number(part) for part in value])
