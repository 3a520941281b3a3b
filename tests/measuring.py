"""How far states are from those that a test asks for: counted backwards, unlike the searches of the package."""

from firstmade.rules import is_fault, is_out, moves, step


def distances(behind, is_end):
    """A dict from each state and fault of which is_end holds, or that leads to one, to the fewest moves to it.

    behind is a dict from states to the list of what is behind their moves.
    """
    ahead = {}
    for state, row in behind.items():
        for other in row:
            ahead.setdefault(other, []).append(state)
    rows = [state for state in {**dict.fromkeys(behind), **dict.fromkeys(ahead)} if is_end(state)]
    far = dict.fromkeys(rows, 0)
    for state in rows:
        for other in ahead.get(state, []):
            if other not in far:
                far[other] = far[state] + 1
                rows.append(other)
    return far


def least_run(setting, state, far):
    """The first of the runs with the fewest moves, compared move by move; None if there is none."""
    if state not in far:
        return None
    run = []
    while far[state]:
        move = next(move for move in moves(setting, state)
                    if far.get(step(setting, state, move), far[state]) < far[state])
        run.append(move)
        state = step(setting, state, move)
    return run


def frees(setting, hand):
    """What tells of a state or a fault whether the hand is out in it, or it is a fault of the hand."""
    return lambda state: state[1] == hand if is_fault(state) else is_out(setting, state, hand)


def behind_run(setting, state, run):
    for move in run:
        state = step(setting, state, move)
    return state
