"""All that runs of a setting come to, by asking the rules alone."""

from itertools import combinations, permutations, product

from firstmade.books import FirstBook, LateBook, NetBook, WakingBook
from firstmade.nets import Net
from firstmade.rules import first_state, is_fault, is_out, moves, step

WRITINGS = [" ".join(row) for row in permutations(("parts", "cell", "flag"))]
FENCES = [row for many in range(4) for row in combinations(("parts", "cell", "reads"), many)]


def first_books():
    rows = product(("cell", "flag", "none"), ("none", "lock", "claim", "swap"), ("never", "cell", "flag"), WRITINGS)
    return [FirstBook(look=look, guard=guard, again=again, writing=writing) for look, guard, again, writing in rows]


def waking_books():
    rows = product(("again", "kept", "left"), ("spin", "sleep", "doze"), ("all", "one", "chain", "none"))
    return [WakingBook(failure=failure, wait=wait, wake=wake) for failure, wait, wake in rows]


def late_books():
    return [LateBook(look=look, fences=fences) for look in ("cell", "flag") for fences in FENCES]


def small_nets(names):
    """All nets of these names, the needs of each ascending."""
    rows = [row for many in range(len(names) + 1) for row in combinations(names, many)]
    return [Net(dict(zip(names, needs))) for needs in product(rows, repeat=len(names))]


def net_books(names):
    return [NetBook(net, guard=guard) for net in small_nets(names) for guard in ("own", "one")]


def come_to(setting):
    """A dict from each state that runs come to, faults left out, to the list of what is behind its moves."""
    behind = {}
    rows = [first_state(setting)]
    while rows:
        state = rows.pop()
        if state not in behind:
            behind[state] = [step(setting, state, move) for move in moves(setting, state)]
            rows += [other for other in behind[state] if not is_fault(other)]
    return behind


def fault_words(behind):
    return {state[0] for row in behind.values() for state in row if is_fault(state)}


def some_hand_is_stuck(setting, behind):
    """Whether in one of the states no run leads a hand out, or to a fault of it."""
    ahead = {}
    for state, row in behind.items():
        for other in row:
            ahead.setdefault(other, []).append(state)
    for hand in range(setting.hands):
        rows = [state for state in ahead if is_fault(state) and state[1] == hand]
        rows += [state for state in behind if is_out(setting, state, hand)]
        freed = set(rows)
        while rows:
            for state in ahead.get(rows.pop(), []):
                if state not in freed:
                    freed.add(state)
                    rows.append(state)
        if any(state not in freed for state in behind):
            return True
    return False
