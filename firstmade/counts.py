"""What a number is."""


def is_number(value):
    """Whether any value is an int that is neither True nor False."""
    return isinstance(value, int) and not isinstance(value, bool)


def is_within(value, least, most):
    """Whether any value is a number from one to another."""
    return is_number(value) and least <= value <= most


def is_digit(word):
    """Whether a text is the digit of a number from 0 to 9."""
    return len(word) == 1 and word in "0123456789"
