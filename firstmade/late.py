"""The rules of late books: hand 0 writes through a store, all others read.

A state is (at, store, memory, readers), each reader (mode, view).
"""

from firstmade.states import with_hand, with_item

WORDS = ("one", "two", "cell", "flag")


def late_start(setting):
    """The first state."""
    return (0, (), (False,) * len(WORDS), (("out", None),) * (setting.hands - 1))


def steps_of(setting):
    """The steps of the writer."""
    fences = setting.switch("fences")
    behind_parts = ("fence",) if "parts" in fences else ()
    behind_cell = ("fence",) if "cell" in fences else ()
    return ("one", "two", *behind_parts, "cell", *behind_cell, "flag")


def late_deeds(setting, state, hand):
    """What a hand can do, in order."""
    return writer_deeds(setting, state) if hand == 0 else reader_deeds(setting, state, hand)


def writer_deeds(setting, state):
    """What hand 0 can do, in order."""
    at, store, _, _ = state
    steps = steps_of(setting)
    if at == len(steps):
        return list(store)
    if steps[at] != "fence":
        return ["write", *store]
    return list(store) if store else ["fence"]


def reader_deeds(setting, state, hand):
    """What another hand can do, in order."""
    mode = state[-1][hand - 1][0]
    if mode == "have":
        return ["use", "end"]
    if mode == "peeked" or setting.switch("look") != "flag" or "reads" in setting.switch("fences"):
        return ["look"]
    return ["look", "peek"]


def late_step(setting, state, hand, deed):
    """The state behind a possible deed."""
    if hand == 0:
        return behind_writer(setting, state, deed)
    _, _, memory, readers = state
    if deed == "look":
        seen = memory[WORDS.index(setting.switch("look"))]
        return with_hand(state, hand - 1, ("have", readers[hand - 1][1]) if seen else ("out", None))
    if deed == "peek":
        return with_hand(state, hand - 1, ("peeked", memory))
    if deed == "use":
        return behind_reading(state, hand)
    return with_hand(state, hand - 1, ("out", None))


def behind_writer(setting, state, deed):
    """Hand 0 has done its next step, or a word has come out of its store."""
    at, store, memory, readers = state
    if deed == "write":
        return (at + 1, (*store, steps_of(setting)[at]), memory, readers)
    if deed == "fence":
        return (at + 1, store, memory, readers)
    left = tuple([word for word in store if word != deed])
    return (at, left, with_item(memory, WORDS.index(deed), True), readers)


def behind_reading(state, hand):
    """The thing is used, or it is a fault to use it."""
    _, _, memory, readers = state
    view = readers[hand - 1][1]
    one, two, cell, _ = memory if view is None else view
    return state if one and two and cell else ("half", hand, None)
