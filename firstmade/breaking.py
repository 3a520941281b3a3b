"""Runs that break a book: each comes to a fault, or a hand is stuck behind it."""

from firstmade.benches import end_of, is_run
from firstmade.errors import NoFault
from firstmade.rules import is_fault
from firstmade.searches import shortest, stuck_hands
from firstmade.settings import Setting
from firstmade.verdicts import faults

# So many states are met at most in search of a way out.
MOST_MET = 20000


def stuck_waking(book):
    """The moves behind which a hand of a wrong waking book waits for ever."""
    if book.failure == "left":
        # The flag tells for ever that somebody makes.
        return [(0, "claim"), (0, "fail"), (1, "claim")]
    if book.wake == "none":
        return [(0, "claim"), (1, "claim"), (1, book.wait)]
    if book.wait == "doze":
        # The hand falls asleep behind the last waking.
        return [(0, "claim"), (1, "claim"), (0, "finish"), (1, "doze")]
    return [(0, "claim"), (1, "claim"), (1, "sleep"), (2, "claim"), (2, "sleep"), (0, "finish")]


def stuck_asking(book):
    """The moves behind which hand 1 waits for a value of a ring that hand 0 can never make."""
    alone = Setting(book, 1)
    run = shortest(alone, kind="itself")
    _, _, name = end_of(alone, run)
    return [*run[:-1], (1, name)]


def breaking(book, word):
    """A setting and a run that shows this fault of a book; raises NoBook, then NoFault."""
    words = faults(book)
    if not isinstance(word, str) or word not in words:
        raise NoFault(word)
    if word == "itself":
        setting = Setting(book, 1)
        return (setting, shortest(setting, kind=word))
    if word != "stuck":
        # Two hands and two makings are enough for half and twice; few states are met then.
        setting = Setting(book, 2, makes=2)
        return (setting, shortest(setting, kind=word))
    if book.way == "net":
        return (Setting(book, 2), stuck_asking(book))
    return (Setting(book, 3, fails=1), stuck_waking(book))


def breaks(setting, run, word):
    """Whether any values are a run and the word of a fault that it shows; raises NoSetting, TooMany."""
    if not is_run(setting, run) or not isinstance(word, str):
        return False
    state = end_of(setting, run)
    if is_fault(state):
        return word == state[0]
    if word != "stuck" or setting.way not in ("waking", "net"):
        return False
    return stuck_hands(setting, state, most=MOST_MET) != []
