"""Benches: a setting that is played move by move."""

from firstmade.counts import is_within
from firstmade.errors import NoHand, NoMove, NothingBack
from firstmade.rules import behind, first_state, is_fault, is_possible, moves, told_of


def states_behind(setting, state, run):
    """The states behind each move of a run from a state; raises NoMove."""
    if not isinstance(run, (list, tuple)):
        raise NoMove(None)
    states = []
    for index, move in enumerate(run):
        if not is_possible(setting, state, move):
            raise NoMove(index)
        state = behind(setting, state, move)
        states.append(state)
    return states


class Trial:
    """A block of a bench, behind which it is as it was ahead of it, unless keep was called in it."""

    def __init__(self, bench):
        self._bench = bench
        self._moved = []
        self._passed = []
        self._kept = None

    def __enter__(self):
        self._moved = self._bench._moved
        self._passed = self._bench._passed
        self._kept = None
        return self._bench

    def __exit__(self, kind, value, trace):
        if self._kept is None or kind is not None:
            self._bench._moved = self._moved
            self._bench._passed = self._passed

    def keep(self):
        """The bench stays as it is when the block ends, unless an exception ends it."""
        self._kept = True


class Bench:
    """A setting, and the moves that were made in it.

    Its lists are never changed, only replaced by others: so a trial can keep the old ones.
    """

    def __init__(self, setting):
        self._passed = [first_state(setting)]
        self._setting = setting
        self._moved = []

    def __call__(self, move):
        """Makes a move and returns the state behind it; raises NoMove."""
        if move not in self:
            raise NoMove(len(self._moved))
        state = behind(self._setting, self._passed[-1], move)
        self._passed = [*self._passed, state]
        self._moved = [*self._moved, move]
        return state

    def __iadd__(self, other):
        """Makes all moves of a run, or none; raises NoMove."""
        states = states_behind(self._setting, self._passed[-1], other)
        self._passed = [*self._passed, *states]
        self._moved = [*self._moved, *other]
        return self

    def state(self):
        """The state now."""
        return self._passed[-1]

    def moves(self):
        """The moves that are possible now."""
        return moves(self._setting, self._passed[-1])

    def listed(self):
        """The moves that were made."""
        return list(self._moved)

    def __iter__(self):
        return iter(self._moved)

    def __len__(self):
        return len(self._moved)

    def __contains__(self, x):
        return is_possible(self._setting, self._passed[-1], x)

    def __getitem__(self, at):
        """What the state tells of a hand, None behind a fault; raises NoHand."""
        if not is_within(at, 0, self._setting.hands - 1):
            raise NoHand(at)
        state = self._passed[-1]
        return None if is_fault(state) else told_of(self._setting, state, at)

    @property
    def fault(self):
        """The state, if it is a fault, or None."""
        state = self._passed[-1]
        return state if is_fault(state) else None

    def back(self, many=1):
        """Takes the last moves back; raises NothingBack."""
        if not is_within(many, 1, len(self._moved)):
            raise NothingBack(many)
        self._passed = self._passed[:-many]
        self._moved = self._moved[:-many]

    def twin(self):
        """An equal bench that goes on by itself."""
        other = Bench(self._setting)
        other._passed = self._passed
        other._moved = self._moved
        return other

    def __eq__(self, other):
        return isinstance(other, Bench) and self._setting == other._setting and self._moved == other._moved

    def trial(self):
        """What is used once with `with`, for moves that are taken back behind the block."""
        return Trial(self)


def tried(bench, run, *, keep=False):
    """Makes the moves of a run within a trial and returns the states behind each; raises NoMove."""
    many = len(bench)
    trial = bench.trial()
    with trial:
        bench += run
        states = bench._passed[many + 1:]
        if keep:
            trial.keep()
    return states


def play(setting, run):
    """A bench that has made the moves of a run; raises NoSetting, then NoMove."""
    bench = Bench(setting)
    bench += run
    return bench


def end_of(setting, run):
    """The state behind the moves of a run; raises NoSetting, then NoMove."""
    return play(setting, run).state()


def is_run(setting, run):
    """Whether any value is a run of a setting; raises NoSetting."""
    first = first_state(setting)
    try:
        states_behind(setting, first, run)
    except NoMove:
        return False
    return True
