"""The switches of the four kinds of books, and their values.

The switches of a kind are a tuple of tuples (word, values), in the order of the
switches. The values are the texts, or the tuples of texts, that a switch can have,
or None for a switch that has a net.
"""

from firstmade.errors import NoSwitch, NoValue
from firstmade.nets import Net

FIRST = (
    ("look", ("cell", "flag", "none")),
    ("guard", ("none", "lock", "claim", "swap")),
    ("again", ("never", "cell", "flag")),
    ("writing", ("parts cell flag", "parts flag cell", "cell parts flag",
                 "cell flag parts", "flag parts cell", "flag cell parts")),
)
WAKING = (
    ("failure", ("again", "kept", "left")),
    ("wait", ("spin", "sleep", "doze")),
    ("wake", ("all", "one", "chain", "none")),
)
LATE = (
    ("look", ("cell", "flag")),
    ("fences", ((), ("parts",), ("cell",), ("reads",), ("parts", "cell"),
                ("parts", "reads"), ("cell", "reads"), ("parts", "cell", "reads"))),
)
NET = (
    ("guard", ("own", "one")),
    ("needs", None),
)


def is_among(values, value):
    """Whether any value is one that a switch can have."""
    if values is None:
        return isinstance(value, Net)
    parts = value if isinstance(value, tuple) else (value,)
    # Only texts may be compared: any value may tell of itself that it is equal to a text.
    return all([isinstance(part, str) for part in parts]) and value in values


def is_switch(held, word):
    """Whether any value is the word of a switch of a book that holds these values."""
    return isinstance(word, str) and word in held


def checked(kind, given):
    """A new dict of the given values, in the order of the switches; raises NoValue."""
    for word, values in kind:
        if not is_among(values, given[word]):
            raise NoValue(word)
    return {word: given[word] for word, _ in kind}


def value_of(held, word):
    """The value of a switch; raises NoSwitch."""
    if not is_switch(held, word):
        raise NoSwitch(word)
    return held[word]


def with_value(kind, held, word, value):
    """The held values but one; raises NoSwitch, then NoValue."""
    if not is_switch(held, word):
        raise NoSwitch(word)
    return checked(kind, {**held, word: value})


def with_values(kind, held, given):
    """The held values but those given; raises NoSwitch, then NoValue."""
    for word in given:
        if not is_switch(held, word):
            raise NoSwitch(word)
    return checked(kind, {**held, **given})
