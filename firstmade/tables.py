"""Tables of states, and whether they are closed."""

from firstmade.benches import end_of
from firstmade.errors import NoTable
from firstmade.rules import first_state, is_fault
from firstmade.searches import search
from firstmade.settings import need_setting

MOST_WITHIN = 8


def is_item(value, within):
    """Whether any value may stand in a state, with so many tuples within one another at most."""
    if isinstance(value, tuple):
        return within > 0 and all([is_item(item, within - 1) for item in value])
    return value is None or isinstance(value, (bool, int, str))


def is_state(value):
    """Whether any value is a tuple that a table takes."""
    return isinstance(value, tuple) and is_item(value, MOST_WITHIN)


class Table:
    """The unlike states of a list or tuple, in the order in which they come first; a table does not change."""

    def __init__(self, states):
        if not isinstance(states, (list, tuple)) or not all([is_state(state) for state in states]):
            raise NoTable(states)
        self._states = {state: True for state in states}

    def listed(self):
        """What a table is iterated over for: its states, in order."""
        return list(self._states)

    def __iter__(self):
        return iter(self._states)

    def __len__(self):
        return len(self._states)

    def __contains__(self, x):
        return is_state(x) and x in self._states

    def __eq__(self, other):
        """Whether the states are the same, in whatever order."""
        return isinstance(other, Table) and self._states == other._states

    def __le__(self, other):
        """Whether each state is one of the other table."""
        if not isinstance(other, Table):
            return NotImplemented
        return all([state in other for state in self._states])

    def __or__(self, other):
        """A table of the states of both, those of the other that are new behind."""
        if not isinstance(other, Table):
            return NotImplemented
        return Table([*self._states, *other._states])

    def __and__(self, other):
        """A table of the states that are in both."""
        if not isinstance(other, Table):
            return NotImplemented
        return Table([state for state in self._states if state in other])


def gap(table, setting):
    """None if the states are closed, or the first break by breadth; raises NoTable, then NoSetting.

    A break is (None, None) if the first state is missing, or (state, move).
    """
    if not isinstance(table, Table):
        raise NoTable(table)
    start = first_state(setting)
    if start not in table:
        return (None, None)
    # What is missing ends the search, so no more states are met than the table has.
    _, run = search(setting, start, len(table), lambda state: is_fault(state) or state not in table)
    return None if run is None else (end_of(setting, run[:-1]), run[-1])


def is_closed(setting, states):
    """Whether any value is a list or tuple of states that are closed; raises NoSetting."""
    need_setting(setting)
    try:
        table = Table(states)
    except NoTable:
        return False
    return gap(table, setting) is None
