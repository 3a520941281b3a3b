"""Searches by breadth through the states that runs come to."""

from firstmade.counts import is_number
from firstmade.errors import NoNumber, TooMany
from firstmade.rules import behind, first_state, is_fault, is_out, moves
from firstmade.settings import need_setting


def need_search(setting, most):
    """Raises NoSetting, then NoNumber unless most is a number from 1."""
    need_setting(setting)
    if not is_number(most) or most < 1:
        raise NoNumber(most)


def search(setting, start, most, ends):
    """The states that are met from one on, and the run to the first that ends the search, or None; raises TooMany.

    A state is given to ends when it is met, a fault each time that a move leads to it.
    """
    runs = {start: ()}
    met = [start]
    at = 0
    while at < len(met):
        state = met[at]
        for move in moves(setting, state):
            other = behind(setting, state, move)
            if other in runs:
                continue
            if ends(other):
                return (met, [*runs[state], move])
            if not is_fault(other):
                runs[other] = (*runs[state], move)
                met.append(other)
            if len(met) > most:
                raise TooMany(most)
        at += 1
    return (met, None)


def all_states(setting, *, most=2000):
    """All states that runs come to, faults left out, as they are met; raises NoSetting, NoNumber, TooMany."""
    need_search(setting, most)
    met, _ = search(setting, first_state(setting), most, lambda state: False)
    return met


def shortest(setting, *, most=2000, kind="any"):
    """A run with the fewest moves to a fault (of this word), or None; raises NoSetting, NoNumber, TooMany."""
    need_search(setting, most)
    _, run = search(setting, first_state(setting), most,
                    lambda state: is_fault(state) and kind in ("any", state[0]))
    return run


def is_freed(setting, state, hand):
    """Whether a hand is out in a state, or this is a fault of it."""
    return state[1] == hand if is_fault(state) else is_out(setting, state, hand)


def way_out(setting, state, hand, *, most=2000):
    """A shortest run to a state in which a hand is out, or to a fault of it; or None. Raises as all_states does."""
    need_search(setting, most)
    if is_freed(setting, state, hand):
        return []
    _, run = search(setting, state, most, lambda other: is_freed(setting, other, hand))
    return run


def stuck_hands(setting, state, *, most=2000):
    """The hands for which there is no way out, [] for a fault; raises NoSetting, NoNumber, TooMany."""
    need_search(setting, most)
    if is_fault(state):
        return []
    return [hand for hand in range(setting.hands) if way_out(setting, state, hand, most=most) is None]
