"""Runs that bring all hands out."""

from firstmade.rules import behind, is_fault, is_out, moves
from firstmade.settings import need_setting
from firstmade.verdicts import is_right


def next_in(setting, state):
    """The move that is made next so that all hands come out, or None if they are."""
    going = [move for move in moves(setting, state) if not is_out(setting, state, move[0])]
    # Who makes goes first: what the others look at tells then that they need not wait.
    makers = [move for move in going if move[1] == "finish"]
    if makers:
        return makers[0]
    return going[0] if going else None


def endings(setting, state):
    """A run from a state of a right waking or net book, behind which all hands are out, or None; raises NoSetting."""
    need_setting(setting)
    if setting.way not in ("waking", "net") or not is_right(setting.book()) or is_fault(state):
        return None
    run = []
    move = next_in(setting, state)
    while move is not None:
        run.append(move)
        state = behind(setting, state, move)
        move = next_in(setting, state)
    return run
