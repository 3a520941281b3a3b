"""States are tuples; the last item of each is the tuple of what it tells of the hands."""


def with_item(row, at, item):
    """The tuple with another item at one place."""
    return (*row[:at], item, *row[at + 1:])


def with_hand(state, at, told):
    """The state that tells something else of one hand."""
    return (*state[:-1], with_item(state[-1], at, told))
