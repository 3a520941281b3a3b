"""The rules of waking books: how a making fails, and how hands wait and are woken.

A state is (flag, fails, hands), each hand its mode.
"""

from firstmade.states import with_hand, with_item

# The mode of a hand that finds the flag 0, 1, 2 or 3.
FINDINGS = ("making", "waiting", "done", "refused")


def waking_start(setting):
    """The first state."""
    return (0, setting.fails, ("out",) * setting.hands)


def waking_deeds(setting, state, hand):
    """What a hand can do, in order."""
    _, fails, hands = state
    mode = hands[hand]
    if mode == "out":
        return ["claim"]
    if mode == "waiting":
        wait = setting.switch("wait")
        return ["look"] if wait == "spin" else [wait]
    if mode == "asleep":
        return []
    if mode == "woken":
        return ["look"]
    if mode == "making":
        return ["finish"] if fails == 0 else ["finish", "fail"]
    return ["end"]


def waking_step(setting, state, hand, deed):
    """The state behind a possible deed."""
    flag, fails, hands = state
    if deed == "finish":
        return with_woken(setting, (2, fails, with_item(hands, hand, "done")))
    if deed == "fail":
        return behind_fail(setting, state, hand)
    if deed == "end":
        return with_hand(state, hand, "out")
    if deed == "doze" or deed == "sleep" and flag == 1:
        return with_hand(state, hand, "asleep")
    return behind_finding(setting, state, hand)


def behind_finding(setting, state, hand):
    """The hand goes on by the flag."""
    flag, fails, hands = state
    found = (1 if flag == 0 else flag, fails, with_item(hands, hand, FINDINGS[flag]))
    if hands[hand] == "woken" and setting.switch("wake") == "chain" and flag in (2, 3):
        return with_woken(setting, found)
    return found


def behind_fail(setting, state, hand):
    """The making has failed: the flag tells it, or stays as it is."""
    flag, fails, hands = state
    failure = setting.switch("failure")
    refused = with_item(hands, hand, "refused")
    if failure == "left":
        return (flag, fails - 1, refused)
    return with_woken(setting, (0 if failure == "again" else 3, fails - 1, refused))


def with_woken(setting, state):
    """The state in which those are woken whom the book says."""
    wake = setting.switch("wake")
    asleep = [hand for hand, mode in enumerate(state[-1]) if mode == "asleep"]
    if wake == "none":
        asleep = []
    elif wake != "all":
        asleep = asleep[:1]
    return (*state[:-1], tuple(["woken" if hand in asleep else mode for hand, mode in enumerate(state[-1])]))
