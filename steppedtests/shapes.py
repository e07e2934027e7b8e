"""Shapes: what values that anybody may have written are made of."""


def is_number(value):
    """True if the value is an integer; True and False are none here."""
    return isinstance(value, int) and not isinstance(value, bool)


def are_numbers(value):
    """True if the value is a tuple of integers."""
    return isinstance(value, tuple) and all([is_number(part) for part in value])


def is_pair(value):
    """True if the value is a tuple of two parts."""
    return isinstance(value, tuple) and len(value) == 2


def ascends(numbers):
    """True if each number is greater than the one before it."""
    return all([first < second for first, second in zip(numbers, numbers[1:])])
