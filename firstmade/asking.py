"""The rules of net books: how hands own values and ask for those that they need.

A state is (made, lock, hands), each hand its stack of tuples (name, at).
"""

from firstmade.states import with_hand, with_item

# Where a value stands in a stack that is not owned yet.
WANTED = -1


def asking_start(setting):
    """The first state."""
    return ((), None, ((),) * setting.hands)


def asking_deeds(setting, state, hand):
    """What a hand can do, in order."""
    made, _, hands = state
    needs = setting.switch("needs")
    if not hands[hand]:
        return [name for name in needs.names() if name not in made]
    name, at = hands[hand][-1]
    if at != WANTED:
        return ["need"] if at < len(needs[name]) else ["make"]
    if name in made:
        return ["take"]
    if is_owned(name, hands[hand]):
        return ["ask"]
    return ["own"] if can_own(setting, state, hand, name) else []


def is_owned(name, stack):
    """Whether a hand with this stack owns a value."""
    return any([owned == name and at != WANTED for owned, at in stack])


def can_own(setting, state, hand, name):
    """Whether a hand may own a value that is not made."""
    _, lock, hands = state
    if any([is_owned(name, stack) for stack in hands]):
        return False
    return setting.switch("guard") == "own" or lock is None or lock == hand


def asking_step(setting, state, hand, deed):
    """The state behind a possible deed."""
    _, _, hands = state
    stack = hands[hand]
    if not stack:
        return with_hand(state, hand, ((deed, WANTED),))
    name, at = stack[-1]
    if deed == "ask":
        return ("itself", hand, name)
    if deed == "own":
        return behind_own(setting, state, hand)
    if deed == "need":
        need = setting.switch("needs")[name][at]
        return with_hand(state, hand, (*stack, (need, WANTED)))
    return behind_done(setting, state, hand)


def behind_own(setting, state, hand):
    """The hand owns what it wanted, and with one lock for all has this."""
    made, lock, hands = state
    name, _ = hands[hand][-1]
    if setting.switch("guard") == "one":
        lock = hand
    return (made, lock, with_item(hands, hand, (*hands[hand][:-1], (name, 0))))


def behind_done(setting, state, hand):
    """The last value of the stack is made, by this hand or ahead of it, and counts for the one ahead."""
    made, lock, hands = state
    done, _ = hands[hand][-1]
    made = tuple([name for name in setting.switch("needs").names() if name in made or name == done])
    stack = hands[hand][:-1]
    if stack:
        name, at = stack[-1]
        stack = (*stack[:-1], (name, at + 1))
    elif lock == hand:
        lock = None
    return (made, lock, with_item(hands, hand, stack))
