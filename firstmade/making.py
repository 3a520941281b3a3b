"""The rules of first books: how hands look, guard, make and publish.

A state is (made, cell, flag, lock, parts, used, hands), each hand (mode, at, thing).
"""

from firstmade.states import with_hand, with_item

OUT = ("out", 0, None)


def making_start(setting):
    """The first state."""
    return (0, None, 0, None, (), None, (OUT,) * setting.hands)


def making_deeds(setting, state, hand):
    """What a hand can do, in order."""
    mode = state[-1][hand][0]
    if mode == "out" and setting.switch("look") != "none":
        return ["look"]
    if mode in ("out", "guard"):
        return guard_deeds(setting, state)
    if mode == "locked" and setting.switch("again") != "never":
        return ["look"]
    if mode in ("locked", "sure"):
        return ["make"] if state[0] < setting.makes else []
    if mode == "making":
        return ["write"]
    if mode == "holding":
        return ["unlock"]
    if mode == "waiting":
        return ["look"]
    return ["use", "end"]


def guard_deeds(setting, state):
    """What a hand can do that did not find the value."""
    made, _, flag, lock, _, _, _ = state
    guard = setting.switch("guard")
    if guard == "lock":
        return ["lock"] if lock is None else []
    can_begin = made < setting.makes
    if guard == "claim":
        return ["claim"] if can_begin or flag != 0 else []
    return ["make"] if can_begin else []


def making_step(setting, state, hand, deed):
    """The state behind a possible deed."""
    if deed == "look":
        return behind_look(setting, state, hand)
    if deed == "make":
        return behind_make(state, hand)
    if deed == "claim":
        return behind_claim(state, hand)
    if deed == "lock":
        return behind_lock(state, hand)
    if deed == "write":
        return behind_write(setting, state, hand)
    if deed == "unlock":
        return behind_unlock(state, hand)
    if deed == "use":
        return behind_use(state, hand)
    return with_hand(state, hand, OUT)


def behind_look(setting, state, hand):
    """The hand goes on by whether the word is set that it looks at."""
    mode = state[-1][hand][0]
    if mode == "out":
        word, found, missed = setting.switch("look"), "have", "guard"
    elif mode == "locked":
        word, found, missed = setting.switch("again"), "holding", "sure"
    else:
        word, found, missed = "flag", "have", "waiting"
    _, cell, flag, _, _, _, _ = state
    is_set = cell is not None if word == "cell" else flag == 2
    return with_hand(state, hand, (found, 0, cell) if is_set else (missed, 0, None))


def behind_make(state, hand):
    """A making begins."""
    made, cell, flag, lock, parts, used, hands = state
    return (made + 1, cell, flag, lock, (*parts, 0), used, with_item(hands, hand, ("making", 0, made)))


def behind_claim(state, hand):
    """A making begins if the flag is 0; otherwise the hand waits."""
    made, cell, flag, lock, parts, used, hands = state
    if flag != 0:
        return with_hand(state, hand, ("waiting", 0, None))
    return behind_make((made, cell, 1, lock, parts, used, hands), hand)


def behind_lock(state, hand):
    """The hand has the lock."""
    made, cell, flag, _, parts, used, hands = state
    return (made, cell, flag, hand, parts, used, with_item(hands, hand, ("locked", 0, None)))


def behind_write(setting, state, hand):
    """The next write is done, or a thing is thrown away that comes too late to be swapped in."""
    made, cell, flag, lock, parts, used, hands = state
    _, at, thing = hands[hand]
    guard = setting.switch("guard")
    # The two parts of a thing are written one by one.
    writes = setting.switch("writing").replace("parts", "parts parts").split()
    if writes[at] == "parts":
        parts = with_item(parts, thing, parts[thing] + 1)
    elif writes[at] == "flag":
        flag = 2
    elif guard == "swap" and cell is not None:
        return with_hand(state, hand, ("have", 0, cell))
    else:
        cell = thing
    told = ("making", at + 1, thing)
    if at + 1 == len(writes):
        told = ("holding" if guard == "lock" else "have", 0, thing)
    return (made, cell, flag, lock, parts, used, with_item(hands, hand, told))


def behind_unlock(state, hand):
    """The hand gives the lock back, and has what it held."""
    made, cell, flag, _, parts, used, hands = state
    _, at, thing = hands[hand]
    return (made, cell, flag, None, parts, used, with_item(hands, hand, ("have", at, thing)))


def behind_use(state, hand):
    """The thing is used, or it is a fault to use it."""
    made, cell, flag, lock, parts, used, hands = state
    thing = hands[hand][2]
    if thing is None or parts[thing] < 2:
        return ("half", hand, thing)
    if used is not None and used != thing:
        return ("twice", hand, thing)
    return (made, cell, flag, lock, parts, thing, hands)
