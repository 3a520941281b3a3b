"""The rules of settings: states, moves, and what is behind each move."""

from firstmade.asking import asking_deeds, asking_start, asking_step
from firstmade.counts import is_within
from firstmade.errors import NoMove
from firstmade.late import late_deeds, late_start, late_step
from firstmade.making import making_deeds, making_start, making_step
from firstmade.settings import need_setting
from firstmade.waking import waking_deeds, waking_start, waking_step


def first_state(setting):
    """The state ahead of all moves; raises NoSetting."""
    need_setting(setting)
    if setting.way == "first":
        return making_start(setting)
    if setting.way == "waking":
        return waking_start(setting)
    if setting.way == "late":
        return late_start(setting)
    return asking_start(setting)


def is_fault(state):
    """Whether a state is a fault, which tells its word first."""
    return isinstance(state[0], str)


def deeds_of(setting, state, hand):
    """What a hand can do in a state that is no fault, in order."""
    if setting.way == "first":
        return making_deeds(setting, state, hand)
    if setting.way == "waking":
        return waking_deeds(setting, state, hand)
    if setting.way == "late":
        return late_deeds(setting, state, hand)
    return asking_deeds(setting, state, hand)


def moves(setting, state):
    """The possible moves, by the numbers of the hands; raises NoSetting."""
    need_setting(setting)
    if is_fault(state):
        return []
    return [(hand, deed) for hand in range(setting.hands) for deed in deeds_of(setting, state, hand)]


def is_possible(setting, state, move):
    """Whether any value is a possible move of a state."""
    if is_fault(state) or not isinstance(move, tuple) or len(move) != 2:
        return False
    hand, deed = move
    if not is_within(hand, 0, setting.hands - 1) or not isinstance(deed, str):
        return False
    return deed in deeds_of(setting, state, hand)


def behind(setting, state, move):
    """The state behind a move that is possible."""
    hand, deed = move
    if setting.way == "first":
        return making_step(setting, state, hand, deed)
    if setting.way == "waking":
        return waking_step(setting, state, hand, deed)
    if setting.way == "late":
        return late_step(setting, state, hand, deed)
    return asking_step(setting, state, hand, deed)


def step(setting, state, move):
    """The state behind a move; raises NoSetting, then NoMove(None) for what is no possible move."""
    need_setting(setting)
    if not is_possible(setting, state, move):
        raise NoMove(None)
    return behind(setting, state, move)


def told_of(setting, state, hand):
    """What a state that is no fault tells of a hand."""
    if setting.way != "late":
        return state[-1][hand]
    return state[:2] if hand == 0 else state[-1][hand - 1]


def is_out(setting, state, hand):
    """Whether a hand is out in a state that is no fault; raises NoSetting."""
    need_setting(setting)
    told = told_of(setting, state, hand)
    if setting.way == "waking":
        return told == "out"
    if setting.way == "net":
        return told == ()
    if setting.way == "late" and hand == 0:
        return deeds_of(setting, state, hand) == []
    return told[0] == "out"
