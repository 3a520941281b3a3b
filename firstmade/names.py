"""What a name is."""


def is_name(value):
    """Whether any value is a text of one to eight small letters."""
    if not isinstance(value, str):
        return False
    return len(value) <= 8 and value.isascii() and value.isalpha() and value.islower()
